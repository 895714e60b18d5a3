/- The test of the chapter's own Set, in whatever order it is asked, where a part of it is not asked. -/
import Derived.Test.YtgcicillmljglaaOps
namespace Go.Proofs.Ytgcicillmljglaa
open Go.RowKit
set_option linter.unusedVariables false
set_option linter.unusedSimpArgs false

set_option maxRecDepth 100000 in
set_option maxHeartbeats 3200000 in
theorem reg_bad {Q : Exit → Act → World → Prop} (p : String) (a : Act) (w : World) (x : Addr) (N c k : Nat) (s : ByteArray) (hsz : a.tmps.size = 35) (e0 : sl a 0 = .slice (some x) N c) (e3 : sl a 3 = .int .i64 k) (hk : k < N) (c0 : w.cell? (x.add k) = some (.string s)) (n1 : ∀ W, Calls Try.prog 36 #[.string s] W fun e w' => e = .returned (.bool false) ∧ Below W.heap.size W w')
    (hQ : ∀ w', Below w.heap.size w w' → Q .normal ((((((((((((((((((((((a.put (some 13) (.slice (some x) N c)).put (some 14) (.int .i64 k)).put (some 15) (.pointer (some (x.add k)))).put (some 16) (.string s)).put (some 17) (.bool false)).put (some 18) (.bool true)).put (some 19) (.bool true)).put (some 20) (undef)).put (some 21) (undef)).put (some 22) (undef)).put (some 23) (undef)).put (some 24) (undef)).put (some 25) (undef)).put (some 26) (undef)).put (some 27) (undef)).put (some 28) (undef)).put (some 29) (undef)).put (some 30) (undef)).put (some 31) (undef)).put (some 32) (undef)).put (some 33) (undef)).put (some 34) (.bool true)) w') :
    (Code.region 6 #[{ dst := some 13, op := Op.move (Operand.tmp 0), type := 24, pos := p, after := #[], guard := none }, { dst := some 14, op := Op.move (Operand.tmp 3), type := 3, pos := p, after := #[], guard := none }, { dst := some 15, op := Op.indexAddr 24 (Operand.tmp 13) (Operand.tmp 14), type := 0, pos := p, after := #[{ on := 0, ground := Ground.data }, { on := 1, ground := Ground.data }], guard := none }, { dst := some 16, op := Op.load 9 (Operand.tmp 15), type := 9, pos := p, after := #[{ on := 2, ground := Ground.data }], guard := none }, { dst := some 17, op := Op.call { callee := Callee.value (Operand.func 36), args := #[Operand.tmp 16], argTypes := #[9] }, type := 4, pos := p, after := #[{ on := 3, ground := Ground.data }], guard := none }, { dst := some 18, op := Op.unOp UnOp.not 4 (Operand.tmp 17), type := 4, pos := p, after := #[{ on := 4, ground := Ground.data }], guard := none }, { dst := some 19, op := Op.move (Operand.tmp 18), type := 4, pos := p, after := #[{ on := 5, ground := Ground.data }, { on := 4, ground := Ground.chain }], guard := none }, { dst := some 20, op := Op.move (Operand.tmp 3), type := 3, pos := p, after := #[{ on := 6, ground := Ground.guard }], guard := some (6, false) }, { dst := some 21, op := Op.binOp BinOp.gtr 3 (Operand.tmp 20) (Operand.const (Value.int IntKind.i64 0)) 3, type := 4, pos := p, after := #[{ on := 7, ground := Ground.data }, { on := 6, ground := Ground.guard }], guard := some (6, false) }, { dst := some 22, op := Op.move (Operand.tmp 21), type := 4, pos := p, after := #[{ on := 8, ground := Ground.data }, { on := 6, ground := Ground.chain }, { on := 6, ground := Ground.guard }], guard := some (6, false) }, { dst := some 23, op := Op.move (Operand.tmp 0), type := 24, pos := p, after := #[{ on := 9, ground := Ground.guard }], guard := some (9, true) }, { dst := some 24, op := Op.move (Operand.tmp 3), type := 3, pos := p, after := #[{ on := 9, ground := Ground.guard }], guard := some (9, true) }, { dst := some 25, op := Op.binOp BinOp.sub 3 (Operand.tmp 24) (Operand.const (Value.int IntKind.i64 1)) 3, type := 3, pos := p, after := #[{ on := 11, ground := Ground.data }, { on := 9, ground := Ground.guard }], guard := some (9, true) }, { dst := some 26, op := Op.indexAddr 24 (Operand.tmp 23) (Operand.tmp 25), type := 0, pos := p, after := #[{ on := 10, ground := Ground.data }, { on := 12, ground := Ground.data }, { on := 9, ground := Ground.guard }], guard := some (9, true) }, { dst := some 27, op := Op.load 9 (Operand.tmp 26), type := 9, pos := p, after := #[{ on := 13, ground := Ground.data }, { on := 9, ground := Ground.guard }], guard := some (9, true) }, { dst := some 28, op := Op.move (Operand.tmp 0), type := 24, pos := p, after := #[{ on := 9, ground := Ground.guard }], guard := some (9, true) }, { dst := some 29, op := Op.move (Operand.tmp 3), type := 3, pos := p, after := #[{ on := 9, ground := Ground.guard }], guard := some (9, true) }, { dst := some 30, op := Op.indexAddr 24 (Operand.tmp 28) (Operand.tmp 29), type := 0, pos := p, after := #[{ on := 15, ground := Ground.data }, { on := 16, ground := Ground.data }, { on := 9, ground := Ground.guard }], guard := some (9, true) }, { dst := some 31, op := Op.load 9 (Operand.tmp 30), type := 9, pos := p, after := #[{ on := 17, ground := Ground.data }, { on := 9, ground := Ground.guard }], guard := some (9, true) }, { dst := some 32, op := Op.binOp BinOp.geq 9 (Operand.tmp 27) (Operand.tmp 31) 9, type := 4, pos := p, after := #[{ on := 14, ground := Ground.data }, { on := 18, ground := Ground.data }, { on := 9, ground := Ground.guard }], guard := some (9, true) }, { dst := some 33, op := Op.pick (Operand.tmp 22) (Operand.tmp 32) (Operand.const (Value.bool false)), type := 4, pos := p, after := #[{ on := 9, ground := Ground.data }, { on := 19, ground := Ground.data }, { on := 6, ground := Ground.guard }], guard := some (6, false) }, { dst := some 34, op := Op.pick (Operand.tmp 19) (Operand.const (Value.bool true)) (Operand.tmp 33), type := 4, pos := p, after := #[{ on := 6, ground := Ground.data }, { on := 20, ground := Ground.data }], guard := none }] true).wp Try.prog Q a w := by
  refine wp_region_K (fun w' => Below w.heap.size w w') (by kernel_rfl) ?_
  have hC : Below w.heap.size w w.drew := (Below.refl _ _).drew
  have g0 : ∀ w', Below w.heap.size w w' → w'.cell? (x.add k) = some (.string s) := fun w' h => cell_below h c0 (block_lt c0)
  refine wpK_take 0 _ (.slice (some x) N c) (by kernel_rfl) rfl hC (Same.wants (rfl) fun w' hw' => ex_move 0 rfl e0) ?_
  obtain ⟨A1, hA1⟩ : ∃ A, A = a.put (some 13) (.slice (some x) N c) := ⟨_, rfl⟩
  refine (show wpK _ _ _ _ _ _ _ (a.put (some 13) (.slice (some x) N c)) _ from ?_)
  rw [← hA1]
  have z1 := size_of hA1 hsz
  have f1_0 := sl_ne hA1 (by decide) e0
  have f1_3 := sl_ne hA1 (by decide) e3
  have f1_13 := sl_same hA1 hsz (by decide)
  refine wpK_take 1 _ (.int .i64 k) (by kernel_rfl) rfl hC (Same.wants (rfl) fun w' hw' => ex_move 3 rfl f1_3) ?_
  obtain ⟨A2, hA2⟩ : ∃ A, A = A1.put (some 14) (.int .i64 k) := ⟨_, rfl⟩
  refine (show wpK _ _ _ _ _ _ _ (A1.put (some 14) (.int .i64 k)) _ from ?_)
  rw [← hA2]
  have z2 := size_of hA2 z1
  have f2_0 := sl_ne hA2 (by decide) f1_0
  have f2_3 := sl_ne hA2 (by decide) f1_3
  have f2_13 := sl_ne hA2 (by decide) f1_13
  have f2_14 := sl_same hA2 z1 (by decide)
  clear f1_0 f1_3 f1_13
  refine wpK_take 2 _ (.pointer (some (x.add k))) (by kernel_rfl) rfl hC (Same.wants (rfl) fun w' hw' => ex_index 13 14 rfl f2_13 f2_14 hk) ?_
  obtain ⟨A3, hA3⟩ : ∃ A, A = A2.put (some 15) (.pointer (some (x.add k))) := ⟨_, rfl⟩
  refine (show wpK _ _ _ _ _ _ _ (A2.put (some 15) (.pointer (some (x.add k)))) _ from ?_)
  rw [← hA3]
  have z3 := size_of hA3 z2
  have f3_0 := sl_ne hA3 (by decide) f2_0
  have f3_3 := sl_ne hA3 (by decide) f2_3
  have f3_13 := sl_ne hA3 (by decide) f2_13
  have f3_14 := sl_ne hA3 (by decide) f2_14
  have f3_15 := sl_same hA3 z2 (by decide)
  clear f2_0 f2_3 f2_13 f2_14
  refine wpK_take 3 _ (.string s) (by kernel_rfl) rfl hC (Same.wants (rfl) fun w' hw' => ex_load 15 rfl f3_15 (g0 w' hw')) ?_
  obtain ⟨A4, hA4⟩ : ∃ A, A = A3.put (some 16) (.string s) := ⟨_, rfl⟩
  refine (show wpK _ _ _ _ _ _ _ (A3.put (some 16) (.string s)) _ from ?_)
  rw [← hA4]
  have z4 := size_of hA4 z3
  have f4_0 := sl_ne hA4 (by decide) f3_0
  have f4_3 := sl_ne hA4 (by decide) f3_3
  have f4_13 := sl_ne hA4 (by decide) f3_13
  have f4_14 := sl_ne hA4 (by decide) f3_14
  have f4_15 := sl_ne hA4 (by decide) f3_15
  have f4_16 := sl_same hA4 z3 (by decide)
  clear f3_0 f3_3 f3_13 f3_14 f3_15
  refine wpK_one 4 _ (by kernel_rfl) rfl (rfl) (ok_call1 36 16 rfl f4_16 cf36 ((n1 _).mono ?_))
  rintro en w1 ⟨rfl, hb1⟩
  refine ⟨_, rfl, ?_⟩
  have hC1 : Below w.heap.size w w1 := hC.trans (hb1.mono hC.size)
  refine ⟨hC1, ?_⟩
  obtain ⟨A5, hA5⟩ : ∃ A, A = A4.put (some 17) (.bool false) := ⟨_, rfl⟩
  refine (show wpK _ _ _ _ _ _ _ (A4.put (some 17) (.bool false)) _ from ?_)
  rw [← hA5]
  have z5 := size_of hA5 z4
  have f5_0 := sl_ne hA5 (by decide) f4_0
  have f5_3 := sl_ne hA5 (by decide) f4_3
  have f5_13 := sl_ne hA5 (by decide) f4_13
  have f5_14 := sl_ne hA5 (by decide) f4_14
  have f5_15 := sl_ne hA5 (by decide) f4_15
  have f5_16 := sl_ne hA5 (by decide) f4_16
  have f5_17 := sl_same hA5 z4 (by decide)
  clear f4_0 f4_3 f4_13 f4_14 f4_15 f4_16
  refine wpK_take 5 _ (.bool true) (by kernel_rfl) rfl hC1 (Same.wants (rfl) fun w' hw' => ex_not 17 rfl f5_17) ?_
  obtain ⟨A6, hA6⟩ : ∃ A, A = A5.put (some 18) (.bool true) := ⟨_, rfl⟩
  refine (show wpK _ _ _ _ _ _ _ (A5.put (some 18) (.bool true)) _ from ?_)
  rw [← hA6]
  have z6 := size_of hA6 z5
  have f6_0 := sl_ne hA6 (by decide) f5_0
  have f6_3 := sl_ne hA6 (by decide) f5_3
  have f6_13 := sl_ne hA6 (by decide) f5_13
  have f6_14 := sl_ne hA6 (by decide) f5_14
  have f6_15 := sl_ne hA6 (by decide) f5_15
  have f6_16 := sl_ne hA6 (by decide) f5_16
  have f6_17 := sl_ne hA6 (by decide) f5_17
  have f6_18 := sl_same hA6 z5 (by decide)
  clear f5_0 f5_3 f5_13 f5_14 f5_15 f5_16 f5_17
  refine wpK_take 6 _ (.bool true) (by kernel_rfl) rfl hC1 (Same.wants (rfl) fun w' hw' => ex_move 18 rfl f6_18) ?_
  obtain ⟨A7, hA7⟩ : ∃ A, A = A6.put (some 19) (.bool true) := ⟨_, rfl⟩
  refine (show wpK _ _ _ _ _ _ _ (A6.put (some 19) (.bool true)) _ from ?_)
  rw [← hA7]
  have z7 := size_of hA7 z6
  have f7_0 := sl_ne hA7 (by decide) f6_0
  have f7_3 := sl_ne hA7 (by decide) f6_3
  have f7_13 := sl_ne hA7 (by decide) f6_13
  have f7_14 := sl_ne hA7 (by decide) f6_14
  have f7_15 := sl_ne hA7 (by decide) f6_15
  have f7_16 := sl_ne hA7 (by decide) f6_16
  have f7_17 := sl_ne hA7 (by decide) f6_17
  have f7_18 := sl_ne hA7 (by decide) f6_18
  have f7_19 := sl_same hA7 z6 (by decide)
  clear f6_0 f6_3 f6_13 f6_14 f6_15 f6_16 f6_17 f6_18
  refine wpK_take 7 _ undef (by kernel_rfl) rfl hC1 (Same.skips (unwant 6 19 rfl rfl f7_19 (by simp [undef]))) ?_
  obtain ⟨A8, hA8⟩ : ∃ A, A = A7.put (some 20) (undef) := ⟨_, rfl⟩
  refine (show wpK _ _ _ _ _ _ _ (A7.put (some 20) (undef)) _ from ?_)
  rw [← hA8]
  have z8 := size_of hA8 z7
  have f8_0 := sl_ne hA8 (by decide) f7_0
  have f8_3 := sl_ne hA8 (by decide) f7_3
  have f8_13 := sl_ne hA8 (by decide) f7_13
  have f8_14 := sl_ne hA8 (by decide) f7_14
  have f8_15 := sl_ne hA8 (by decide) f7_15
  have f8_16 := sl_ne hA8 (by decide) f7_16
  have f8_17 := sl_ne hA8 (by decide) f7_17
  have f8_18 := sl_ne hA8 (by decide) f7_18
  have f8_19 := sl_ne hA8 (by decide) f7_19
  have f8_20 := sl_same hA8 z7 (by decide)
  clear f7_0 f7_3 f7_13 f7_14 f7_15 f7_16 f7_17 f7_18 f7_19
  refine wpK_take 8 _ undef (by kernel_rfl) rfl hC1 (Same.skips (unwant 6 19 rfl rfl f8_19 (by simp [undef]))) ?_
  obtain ⟨A9, hA9⟩ : ∃ A, A = A8.put (some 21) (undef) := ⟨_, rfl⟩
  refine (show wpK _ _ _ _ _ _ _ (A8.put (some 21) (undef)) _ from ?_)
  rw [← hA9]
  have z9 := size_of hA9 z8
  have f9_0 := sl_ne hA9 (by decide) f8_0
  have f9_3 := sl_ne hA9 (by decide) f8_3
  have f9_13 := sl_ne hA9 (by decide) f8_13
  have f9_14 := sl_ne hA9 (by decide) f8_14
  have f9_15 := sl_ne hA9 (by decide) f8_15
  have f9_16 := sl_ne hA9 (by decide) f8_16
  have f9_17 := sl_ne hA9 (by decide) f8_17
  have f9_18 := sl_ne hA9 (by decide) f8_18
  have f9_19 := sl_ne hA9 (by decide) f8_19
  have f9_20 := sl_ne hA9 (by decide) f8_20
  have f9_21 := sl_same hA9 z8 (by decide)
  clear f8_0 f8_3 f8_13 f8_14 f8_15 f8_16 f8_17 f8_18 f8_19 f8_20
  refine wpK_take 9 _ undef (by kernel_rfl) rfl hC1 (Same.skips (unwant 6 19 rfl rfl f9_19 (by simp [undef]))) ?_
  obtain ⟨A10, hA10⟩ : ∃ A, A = A9.put (some 22) (undef) := ⟨_, rfl⟩
  refine (show wpK _ _ _ _ _ _ _ (A9.put (some 22) (undef)) _ from ?_)
  rw [← hA10]
  have z10 := size_of hA10 z9
  have f10_0 := sl_ne hA10 (by decide) f9_0
  have f10_3 := sl_ne hA10 (by decide) f9_3
  have f10_13 := sl_ne hA10 (by decide) f9_13
  have f10_14 := sl_ne hA10 (by decide) f9_14
  have f10_15 := sl_ne hA10 (by decide) f9_15
  have f10_16 := sl_ne hA10 (by decide) f9_16
  have f10_17 := sl_ne hA10 (by decide) f9_17
  have f10_18 := sl_ne hA10 (by decide) f9_18
  have f10_19 := sl_ne hA10 (by decide) f9_19
  have f10_20 := sl_ne hA10 (by decide) f9_20
  have f10_21 := sl_ne hA10 (by decide) f9_21
  have f10_22 := sl_same hA10 z9 (by decide)
  clear f9_0 f9_3 f9_13 f9_14 f9_15 f9_16 f9_17 f9_18 f9_19 f9_20 f9_21
  refine wpK_take 10 _ undef (by kernel_rfl) rfl hC1 (Same.skips (unwant 9 22 rfl rfl f10_22 (by simp [undef]))) ?_
  obtain ⟨A11, hA11⟩ : ∃ A, A = A10.put (some 23) (undef) := ⟨_, rfl⟩
  refine (show wpK _ _ _ _ _ _ _ (A10.put (some 23) (undef)) _ from ?_)
  rw [← hA11]
  have z11 := size_of hA11 z10
  have f11_0 := sl_ne hA11 (by decide) f10_0
  have f11_3 := sl_ne hA11 (by decide) f10_3
  have f11_13 := sl_ne hA11 (by decide) f10_13
  have f11_14 := sl_ne hA11 (by decide) f10_14
  have f11_15 := sl_ne hA11 (by decide) f10_15
  have f11_16 := sl_ne hA11 (by decide) f10_16
  have f11_17 := sl_ne hA11 (by decide) f10_17
  have f11_18 := sl_ne hA11 (by decide) f10_18
  have f11_19 := sl_ne hA11 (by decide) f10_19
  have f11_20 := sl_ne hA11 (by decide) f10_20
  have f11_21 := sl_ne hA11 (by decide) f10_21
  have f11_22 := sl_ne hA11 (by decide) f10_22
  have f11_23 := sl_same hA11 z10 (by decide)
  clear f10_0 f10_3 f10_13 f10_14 f10_15 f10_16 f10_17 f10_18 f10_19 f10_20 f10_21 f10_22
  refine wpK_take 11 _ undef (by kernel_rfl) rfl hC1 (Same.skips (unwant 9 22 rfl rfl f11_22 (by simp [undef]))) ?_
  obtain ⟨A12, hA12⟩ : ∃ A, A = A11.put (some 24) (undef) := ⟨_, rfl⟩
  refine (show wpK _ _ _ _ _ _ _ (A11.put (some 24) (undef)) _ from ?_)
  rw [← hA12]
  have z12 := size_of hA12 z11
  have f12_0 := sl_ne hA12 (by decide) f11_0
  have f12_3 := sl_ne hA12 (by decide) f11_3
  have f12_13 := sl_ne hA12 (by decide) f11_13
  have f12_14 := sl_ne hA12 (by decide) f11_14
  have f12_15 := sl_ne hA12 (by decide) f11_15
  have f12_16 := sl_ne hA12 (by decide) f11_16
  have f12_17 := sl_ne hA12 (by decide) f11_17
  have f12_18 := sl_ne hA12 (by decide) f11_18
  have f12_19 := sl_ne hA12 (by decide) f11_19
  have f12_20 := sl_ne hA12 (by decide) f11_20
  have f12_21 := sl_ne hA12 (by decide) f11_21
  have f12_22 := sl_ne hA12 (by decide) f11_22
  have f12_23 := sl_ne hA12 (by decide) f11_23
  have f12_24 := sl_same hA12 z11 (by decide)
  clear f11_0 f11_3 f11_13 f11_14 f11_15 f11_16 f11_17 f11_18 f11_19 f11_20 f11_21 f11_22 f11_23
  refine wpK_take 12 _ undef (by kernel_rfl) rfl hC1 (Same.skips (unwant 9 22 rfl rfl f12_22 (by simp [undef]))) ?_
  obtain ⟨A13, hA13⟩ : ∃ A, A = A12.put (some 25) (undef) := ⟨_, rfl⟩
  refine (show wpK _ _ _ _ _ _ _ (A12.put (some 25) (undef)) _ from ?_)
  rw [← hA13]
  have z13 := size_of hA13 z12
  have f13_0 := sl_ne hA13 (by decide) f12_0
  have f13_3 := sl_ne hA13 (by decide) f12_3
  have f13_13 := sl_ne hA13 (by decide) f12_13
  have f13_14 := sl_ne hA13 (by decide) f12_14
  have f13_15 := sl_ne hA13 (by decide) f12_15
  have f13_16 := sl_ne hA13 (by decide) f12_16
  have f13_17 := sl_ne hA13 (by decide) f12_17
  have f13_18 := sl_ne hA13 (by decide) f12_18
  have f13_19 := sl_ne hA13 (by decide) f12_19
  have f13_20 := sl_ne hA13 (by decide) f12_20
  have f13_21 := sl_ne hA13 (by decide) f12_21
  have f13_22 := sl_ne hA13 (by decide) f12_22
  have f13_23 := sl_ne hA13 (by decide) f12_23
  have f13_24 := sl_ne hA13 (by decide) f12_24
  have f13_25 := sl_same hA13 z12 (by decide)
  clear f12_0 f12_3 f12_13 f12_14 f12_15 f12_16 f12_17 f12_18 f12_19 f12_20 f12_21 f12_22 f12_23 f12_24
  refine wpK_take 13 _ undef (by kernel_rfl) rfl hC1 (Same.skips (unwant 9 22 rfl rfl f13_22 (by simp [undef]))) ?_
  obtain ⟨A14, hA14⟩ : ∃ A, A = A13.put (some 26) (undef) := ⟨_, rfl⟩
  refine (show wpK _ _ _ _ _ _ _ (A13.put (some 26) (undef)) _ from ?_)
  rw [← hA14]
  have z14 := size_of hA14 z13
  have f14_0 := sl_ne hA14 (by decide) f13_0
  have f14_3 := sl_ne hA14 (by decide) f13_3
  have f14_13 := sl_ne hA14 (by decide) f13_13
  have f14_14 := sl_ne hA14 (by decide) f13_14
  have f14_15 := sl_ne hA14 (by decide) f13_15
  have f14_16 := sl_ne hA14 (by decide) f13_16
  have f14_17 := sl_ne hA14 (by decide) f13_17
  have f14_18 := sl_ne hA14 (by decide) f13_18
  have f14_19 := sl_ne hA14 (by decide) f13_19
  have f14_20 := sl_ne hA14 (by decide) f13_20
  have f14_21 := sl_ne hA14 (by decide) f13_21
  have f14_22 := sl_ne hA14 (by decide) f13_22
  have f14_23 := sl_ne hA14 (by decide) f13_23
  have f14_24 := sl_ne hA14 (by decide) f13_24
  have f14_25 := sl_ne hA14 (by decide) f13_25
  have f14_26 := sl_same hA14 z13 (by decide)
  clear f13_0 f13_3 f13_13 f13_14 f13_15 f13_16 f13_17 f13_18 f13_19 f13_20 f13_21 f13_22 f13_23 f13_24 f13_25
  refine wpK_take 14 _ undef (by kernel_rfl) rfl hC1 (Same.skips (unwant 9 22 rfl rfl f14_22 (by simp [undef]))) ?_
  obtain ⟨A15, hA15⟩ : ∃ A, A = A14.put (some 27) (undef) := ⟨_, rfl⟩
  refine (show wpK _ _ _ _ _ _ _ (A14.put (some 27) (undef)) _ from ?_)
  rw [← hA15]
  have z15 := size_of hA15 z14
  have f15_0 := sl_ne hA15 (by decide) f14_0
  have f15_3 := sl_ne hA15 (by decide) f14_3
  have f15_13 := sl_ne hA15 (by decide) f14_13
  have f15_14 := sl_ne hA15 (by decide) f14_14
  have f15_15 := sl_ne hA15 (by decide) f14_15
  have f15_16 := sl_ne hA15 (by decide) f14_16
  have f15_17 := sl_ne hA15 (by decide) f14_17
  have f15_18 := sl_ne hA15 (by decide) f14_18
  have f15_19 := sl_ne hA15 (by decide) f14_19
  have f15_20 := sl_ne hA15 (by decide) f14_20
  have f15_21 := sl_ne hA15 (by decide) f14_21
  have f15_22 := sl_ne hA15 (by decide) f14_22
  have f15_23 := sl_ne hA15 (by decide) f14_23
  have f15_24 := sl_ne hA15 (by decide) f14_24
  have f15_25 := sl_ne hA15 (by decide) f14_25
  have f15_26 := sl_ne hA15 (by decide) f14_26
  have f15_27 := sl_same hA15 z14 (by decide)
  clear f14_0 f14_3 f14_13 f14_14 f14_15 f14_16 f14_17 f14_18 f14_19 f14_20 f14_21 f14_22 f14_23 f14_24 f14_25 f14_26
  refine wpK_take 15 _ undef (by kernel_rfl) rfl hC1 (Same.skips (unwant 9 22 rfl rfl f15_22 (by simp [undef]))) ?_
  obtain ⟨A16, hA16⟩ : ∃ A, A = A15.put (some 28) (undef) := ⟨_, rfl⟩
  refine (show wpK _ _ _ _ _ _ _ (A15.put (some 28) (undef)) _ from ?_)
  rw [← hA16]
  have z16 := size_of hA16 z15
  have f16_0 := sl_ne hA16 (by decide) f15_0
  have f16_3 := sl_ne hA16 (by decide) f15_3
  have f16_13 := sl_ne hA16 (by decide) f15_13
  have f16_14 := sl_ne hA16 (by decide) f15_14
  have f16_15 := sl_ne hA16 (by decide) f15_15
  have f16_16 := sl_ne hA16 (by decide) f15_16
  have f16_17 := sl_ne hA16 (by decide) f15_17
  have f16_18 := sl_ne hA16 (by decide) f15_18
  have f16_19 := sl_ne hA16 (by decide) f15_19
  have f16_20 := sl_ne hA16 (by decide) f15_20
  have f16_21 := sl_ne hA16 (by decide) f15_21
  have f16_22 := sl_ne hA16 (by decide) f15_22
  have f16_23 := sl_ne hA16 (by decide) f15_23
  have f16_24 := sl_ne hA16 (by decide) f15_24
  have f16_25 := sl_ne hA16 (by decide) f15_25
  have f16_26 := sl_ne hA16 (by decide) f15_26
  have f16_27 := sl_ne hA16 (by decide) f15_27
  have f16_28 := sl_same hA16 z15 (by decide)
  clear f15_0 f15_3 f15_13 f15_14 f15_15 f15_16 f15_17 f15_18 f15_19 f15_20 f15_21 f15_22 f15_23 f15_24 f15_25 f15_26 f15_27
  refine wpK_take 16 _ undef (by kernel_rfl) rfl hC1 (Same.skips (unwant 9 22 rfl rfl f16_22 (by simp [undef]))) ?_
  obtain ⟨A17, hA17⟩ : ∃ A, A = A16.put (some 29) (undef) := ⟨_, rfl⟩
  refine (show wpK _ _ _ _ _ _ _ (A16.put (some 29) (undef)) _ from ?_)
  rw [← hA17]
  have z17 := size_of hA17 z16
  have f17_0 := sl_ne hA17 (by decide) f16_0
  have f17_3 := sl_ne hA17 (by decide) f16_3
  have f17_13 := sl_ne hA17 (by decide) f16_13
  have f17_14 := sl_ne hA17 (by decide) f16_14
  have f17_15 := sl_ne hA17 (by decide) f16_15
  have f17_16 := sl_ne hA17 (by decide) f16_16
  have f17_17 := sl_ne hA17 (by decide) f16_17
  have f17_18 := sl_ne hA17 (by decide) f16_18
  have f17_19 := sl_ne hA17 (by decide) f16_19
  have f17_20 := sl_ne hA17 (by decide) f16_20
  have f17_21 := sl_ne hA17 (by decide) f16_21
  have f17_22 := sl_ne hA17 (by decide) f16_22
  have f17_23 := sl_ne hA17 (by decide) f16_23
  have f17_24 := sl_ne hA17 (by decide) f16_24
  have f17_25 := sl_ne hA17 (by decide) f16_25
  have f17_26 := sl_ne hA17 (by decide) f16_26
  have f17_27 := sl_ne hA17 (by decide) f16_27
  have f17_28 := sl_ne hA17 (by decide) f16_28
  have f17_29 := sl_same hA17 z16 (by decide)
  clear f16_0 f16_3 f16_13 f16_14 f16_15 f16_16 f16_17 f16_18 f16_19 f16_20 f16_21 f16_22 f16_23 f16_24 f16_25 f16_26 f16_27 f16_28
  refine wpK_take 17 _ undef (by kernel_rfl) rfl hC1 (Same.skips (unwant 9 22 rfl rfl f17_22 (by simp [undef]))) ?_
  obtain ⟨A18, hA18⟩ : ∃ A, A = A17.put (some 30) (undef) := ⟨_, rfl⟩
  refine (show wpK _ _ _ _ _ _ _ (A17.put (some 30) (undef)) _ from ?_)
  rw [← hA18]
  have z18 := size_of hA18 z17
  have f18_0 := sl_ne hA18 (by decide) f17_0
  have f18_3 := sl_ne hA18 (by decide) f17_3
  have f18_13 := sl_ne hA18 (by decide) f17_13
  have f18_14 := sl_ne hA18 (by decide) f17_14
  have f18_15 := sl_ne hA18 (by decide) f17_15
  have f18_16 := sl_ne hA18 (by decide) f17_16
  have f18_17 := sl_ne hA18 (by decide) f17_17
  have f18_18 := sl_ne hA18 (by decide) f17_18
  have f18_19 := sl_ne hA18 (by decide) f17_19
  have f18_20 := sl_ne hA18 (by decide) f17_20
  have f18_21 := sl_ne hA18 (by decide) f17_21
  have f18_22 := sl_ne hA18 (by decide) f17_22
  have f18_23 := sl_ne hA18 (by decide) f17_23
  have f18_24 := sl_ne hA18 (by decide) f17_24
  have f18_25 := sl_ne hA18 (by decide) f17_25
  have f18_26 := sl_ne hA18 (by decide) f17_26
  have f18_27 := sl_ne hA18 (by decide) f17_27
  have f18_28 := sl_ne hA18 (by decide) f17_28
  have f18_29 := sl_ne hA18 (by decide) f17_29
  have f18_30 := sl_same hA18 z17 (by decide)
  clear f17_0 f17_3 f17_13 f17_14 f17_15 f17_16 f17_17 f17_18 f17_19 f17_20 f17_21 f17_22 f17_23 f17_24 f17_25 f17_26 f17_27 f17_28 f17_29
  refine wpK_take 18 _ undef (by kernel_rfl) rfl hC1 (Same.skips (unwant 9 22 rfl rfl f18_22 (by simp [undef]))) ?_
  obtain ⟨A19, hA19⟩ : ∃ A, A = A18.put (some 31) (undef) := ⟨_, rfl⟩
  refine (show wpK _ _ _ _ _ _ _ (A18.put (some 31) (undef)) _ from ?_)
  rw [← hA19]
  have z19 := size_of hA19 z18
  have f19_0 := sl_ne hA19 (by decide) f18_0
  have f19_3 := sl_ne hA19 (by decide) f18_3
  have f19_13 := sl_ne hA19 (by decide) f18_13
  have f19_14 := sl_ne hA19 (by decide) f18_14
  have f19_15 := sl_ne hA19 (by decide) f18_15
  have f19_16 := sl_ne hA19 (by decide) f18_16
  have f19_17 := sl_ne hA19 (by decide) f18_17
  have f19_18 := sl_ne hA19 (by decide) f18_18
  have f19_19 := sl_ne hA19 (by decide) f18_19
  have f19_20 := sl_ne hA19 (by decide) f18_20
  have f19_21 := sl_ne hA19 (by decide) f18_21
  have f19_22 := sl_ne hA19 (by decide) f18_22
  have f19_23 := sl_ne hA19 (by decide) f18_23
  have f19_24 := sl_ne hA19 (by decide) f18_24
  have f19_25 := sl_ne hA19 (by decide) f18_25
  have f19_26 := sl_ne hA19 (by decide) f18_26
  have f19_27 := sl_ne hA19 (by decide) f18_27
  have f19_28 := sl_ne hA19 (by decide) f18_28
  have f19_29 := sl_ne hA19 (by decide) f18_29
  have f19_30 := sl_ne hA19 (by decide) f18_30
  have f19_31 := sl_same hA19 z18 (by decide)
  clear f18_0 f18_3 f18_13 f18_14 f18_15 f18_16 f18_17 f18_18 f18_19 f18_20 f18_21 f18_22 f18_23 f18_24 f18_25 f18_26 f18_27 f18_28 f18_29 f18_30
  refine wpK_take 19 _ undef (by kernel_rfl) rfl hC1 (Same.skips (unwant 9 22 rfl rfl f19_22 (by simp [undef]))) ?_
  obtain ⟨A20, hA20⟩ : ∃ A, A = A19.put (some 32) (undef) := ⟨_, rfl⟩
  refine (show wpK _ _ _ _ _ _ _ (A19.put (some 32) (undef)) _ from ?_)
  rw [← hA20]
  have z20 := size_of hA20 z19
  have f20_0 := sl_ne hA20 (by decide) f19_0
  have f20_3 := sl_ne hA20 (by decide) f19_3
  have f20_13 := sl_ne hA20 (by decide) f19_13
  have f20_14 := sl_ne hA20 (by decide) f19_14
  have f20_15 := sl_ne hA20 (by decide) f19_15
  have f20_16 := sl_ne hA20 (by decide) f19_16
  have f20_17 := sl_ne hA20 (by decide) f19_17
  have f20_18 := sl_ne hA20 (by decide) f19_18
  have f20_19 := sl_ne hA20 (by decide) f19_19
  have f20_20 := sl_ne hA20 (by decide) f19_20
  have f20_21 := sl_ne hA20 (by decide) f19_21
  have f20_22 := sl_ne hA20 (by decide) f19_22
  have f20_23 := sl_ne hA20 (by decide) f19_23
  have f20_24 := sl_ne hA20 (by decide) f19_24
  have f20_25 := sl_ne hA20 (by decide) f19_25
  have f20_26 := sl_ne hA20 (by decide) f19_26
  have f20_27 := sl_ne hA20 (by decide) f19_27
  have f20_28 := sl_ne hA20 (by decide) f19_28
  have f20_29 := sl_ne hA20 (by decide) f19_29
  have f20_30 := sl_ne hA20 (by decide) f19_30
  have f20_31 := sl_ne hA20 (by decide) f19_31
  have f20_32 := sl_same hA20 z19 (by decide)
  clear f19_0 f19_3 f19_13 f19_14 f19_15 f19_16 f19_17 f19_18 f19_19 f19_20 f19_21 f19_22 f19_23 f19_24 f19_25 f19_26 f19_27 f19_28 f19_29 f19_30 f19_31
  refine wpK_take 20 _ undef (by kernel_rfl) rfl hC1 (Same.skips (unwant 6 19 rfl rfl f20_19 (by simp [undef]))) ?_
  obtain ⟨A21, hA21⟩ : ∃ A, A = A20.put (some 33) (undef) := ⟨_, rfl⟩
  refine (show wpK _ _ _ _ _ _ _ (A20.put (some 33) (undef)) _ from ?_)
  rw [← hA21]
  have z21 := size_of hA21 z20
  have f21_0 := sl_ne hA21 (by decide) f20_0
  have f21_3 := sl_ne hA21 (by decide) f20_3
  have f21_13 := sl_ne hA21 (by decide) f20_13
  have f21_14 := sl_ne hA21 (by decide) f20_14
  have f21_15 := sl_ne hA21 (by decide) f20_15
  have f21_16 := sl_ne hA21 (by decide) f20_16
  have f21_17 := sl_ne hA21 (by decide) f20_17
  have f21_18 := sl_ne hA21 (by decide) f20_18
  have f21_19 := sl_ne hA21 (by decide) f20_19
  have f21_20 := sl_ne hA21 (by decide) f20_20
  have f21_21 := sl_ne hA21 (by decide) f20_21
  have f21_22 := sl_ne hA21 (by decide) f20_22
  have f21_23 := sl_ne hA21 (by decide) f20_23
  have f21_24 := sl_ne hA21 (by decide) f20_24
  have f21_25 := sl_ne hA21 (by decide) f20_25
  have f21_26 := sl_ne hA21 (by decide) f20_26
  have f21_27 := sl_ne hA21 (by decide) f20_27
  have f21_28 := sl_ne hA21 (by decide) f20_28
  have f21_29 := sl_ne hA21 (by decide) f20_29
  have f21_30 := sl_ne hA21 (by decide) f20_30
  have f21_31 := sl_ne hA21 (by decide) f20_31
  have f21_32 := sl_ne hA21 (by decide) f20_32
  have f21_33 := sl_same hA21 z20 (by decide)
  clear f20_0 f20_3 f20_13 f20_14 f20_15 f20_16 f20_17 f20_18 f20_19 f20_20 f20_21 f20_22 f20_23 f20_24 f20_25 f20_26 f20_27 f20_28 f20_29 f20_30 f20_31 f20_32
  refine wpK_take 21 _ (.bool true) (by kernel_rfl) rfl hC1 (Same.wants (rfl) fun w' hw' => ex_pickT 19 33 rfl f21_19) ?_
  obtain ⟨A22, hA22⟩ : ∃ A, A = A21.put (some 34) (.bool true) := ⟨_, rfl⟩
  refine (show wpK _ _ _ _ _ _ _ (A21.put (some 34) (.bool true)) _ from ?_)
  rw [← hA22]
  have z22 := size_of hA22 z21
  have f22_0 := sl_ne hA22 (by decide) f21_0
  have f22_3 := sl_ne hA22 (by decide) f21_3
  have f22_13 := sl_ne hA22 (by decide) f21_13
  have f22_14 := sl_ne hA22 (by decide) f21_14
  have f22_15 := sl_ne hA22 (by decide) f21_15
  have f22_16 := sl_ne hA22 (by decide) f21_16
  have f22_17 := sl_ne hA22 (by decide) f21_17
  have f22_18 := sl_ne hA22 (by decide) f21_18
  have f22_19 := sl_ne hA22 (by decide) f21_19
  have f22_20 := sl_ne hA22 (by decide) f21_20
  have f22_21 := sl_ne hA22 (by decide) f21_21
  have f22_22 := sl_ne hA22 (by decide) f21_22
  have f22_23 := sl_ne hA22 (by decide) f21_23
  have f22_24 := sl_ne hA22 (by decide) f21_24
  have f22_25 := sl_ne hA22 (by decide) f21_25
  have f22_26 := sl_ne hA22 (by decide) f21_26
  have f22_27 := sl_ne hA22 (by decide) f21_27
  have f22_28 := sl_ne hA22 (by decide) f21_28
  have f22_29 := sl_ne hA22 (by decide) f21_29
  have f22_30 := sl_ne hA22 (by decide) f21_30
  have f22_31 := sl_ne hA22 (by decide) f21_31
  have f22_32 := sl_ne hA22 (by decide) f21_32
  have f22_33 := sl_ne hA22 (by decide) f21_33
  have f22_34 := sl_same hA22 z21 (by decide)
  clear f21_0 f21_3 f21_13 f21_14 f21_15 f21_16 f21_17 f21_18 f21_19 f21_20 f21_21 f21_22 f21_23 f21_24 f21_25 f21_26 f21_27 f21_28 f21_29 f21_30 f21_31 f21_32 f21_33
  refine wpK_end (by kernel_rfl) ?_
  have := hQ w1 hC1
  clear f22_0 f22_3 f22_13 f22_14 f22_15 f22_16 f22_17 f22_18 f22_19 f22_20 f22_21 f22_22 f22_23 f22_24 f22_25 f22_26 f22_27 f22_28 f22_29 f22_30 f22_31 f22_32 f22_33 f22_34
  subst hA22
  subst hA21
  subst hA20
  subst hA19
  subst hA18
  subst hA17
  subst hA16
  subst hA15
  subst hA14
  subst hA13
  subst hA12
  subst hA11
  subst hA10
  subst hA9
  subst hA8
  subst hA7
  subst hA6
  subst hA5
  subst hA4
  subst hA3
  subst hA2
  subst hA1
  exact this

set_option maxRecDepth 100000 in
set_option maxHeartbeats 3200000 in
theorem reg_first {Q : Exit → Act → World → Prop} (p : String) (a : Act) (w : World) (x : Addr) (N c k : Nat) (s : ByteArray) (hsz : a.tmps.size = 35) (e0 : sl a 0 = .slice (some x) N c) (e3 : sl a 3 = .int .i64 k) (hk : k < N) (c0 : w.cell? (x.add k) = some (.string s)) (hk0 : k = 0) (n1 : ∀ W, Calls Try.prog 36 #[.string s] W fun e w' => e = .returned (.bool true) ∧ Below W.heap.size W w')
    (hQ : ∀ w', Below w.heap.size w w' → Q .normal ((((((((((((((((((((((a.put (some 13) (.slice (some x) N c)).put (some 14) (.int .i64 k)).put (some 15) (.pointer (some (x.add k)))).put (some 16) (.string s)).put (some 17) (.bool true)).put (some 18) (.bool false)).put (some 19) (.bool false)).put (some 20) (.int .i64 k)).put (some 21) (.bool false)).put (some 22) (.bool false)).put (some 23) (undef)).put (some 24) (undef)).put (some 25) (undef)).put (some 26) (undef)).put (some 27) (undef)).put (some 28) (undef)).put (some 29) (undef)).put (some 30) (undef)).put (some 31) (undef)).put (some 32) (undef)).put (some 33) (.bool false)).put (some 34) (.bool false)) w') :
    (Code.region 6 #[{ dst := some 13, op := Op.move (Operand.tmp 0), type := 24, pos := p, after := #[], guard := none }, { dst := some 14, op := Op.move (Operand.tmp 3), type := 3, pos := p, after := #[], guard := none }, { dst := some 15, op := Op.indexAddr 24 (Operand.tmp 13) (Operand.tmp 14), type := 0, pos := p, after := #[{ on := 0, ground := Ground.data }, { on := 1, ground := Ground.data }], guard := none }, { dst := some 16, op := Op.load 9 (Operand.tmp 15), type := 9, pos := p, after := #[{ on := 2, ground := Ground.data }], guard := none }, { dst := some 17, op := Op.call { callee := Callee.value (Operand.func 36), args := #[Operand.tmp 16], argTypes := #[9] }, type := 4, pos := p, after := #[{ on := 3, ground := Ground.data }], guard := none }, { dst := some 18, op := Op.unOp UnOp.not 4 (Operand.tmp 17), type := 4, pos := p, after := #[{ on := 4, ground := Ground.data }], guard := none }, { dst := some 19, op := Op.move (Operand.tmp 18), type := 4, pos := p, after := #[{ on := 5, ground := Ground.data }, { on := 4, ground := Ground.chain }], guard := none }, { dst := some 20, op := Op.move (Operand.tmp 3), type := 3, pos := p, after := #[{ on := 6, ground := Ground.guard }], guard := some (6, false) }, { dst := some 21, op := Op.binOp BinOp.gtr 3 (Operand.tmp 20) (Operand.const (Value.int IntKind.i64 0)) 3, type := 4, pos := p, after := #[{ on := 7, ground := Ground.data }, { on := 6, ground := Ground.guard }], guard := some (6, false) }, { dst := some 22, op := Op.move (Operand.tmp 21), type := 4, pos := p, after := #[{ on := 8, ground := Ground.data }, { on := 6, ground := Ground.chain }, { on := 6, ground := Ground.guard }], guard := some (6, false) }, { dst := some 23, op := Op.move (Operand.tmp 0), type := 24, pos := p, after := #[{ on := 9, ground := Ground.guard }], guard := some (9, true) }, { dst := some 24, op := Op.move (Operand.tmp 3), type := 3, pos := p, after := #[{ on := 9, ground := Ground.guard }], guard := some (9, true) }, { dst := some 25, op := Op.binOp BinOp.sub 3 (Operand.tmp 24) (Operand.const (Value.int IntKind.i64 1)) 3, type := 3, pos := p, after := #[{ on := 11, ground := Ground.data }, { on := 9, ground := Ground.guard }], guard := some (9, true) }, { dst := some 26, op := Op.indexAddr 24 (Operand.tmp 23) (Operand.tmp 25), type := 0, pos := p, after := #[{ on := 10, ground := Ground.data }, { on := 12, ground := Ground.data }, { on := 9, ground := Ground.guard }], guard := some (9, true) }, { dst := some 27, op := Op.load 9 (Operand.tmp 26), type := 9, pos := p, after := #[{ on := 13, ground := Ground.data }, { on := 9, ground := Ground.guard }], guard := some (9, true) }, { dst := some 28, op := Op.move (Operand.tmp 0), type := 24, pos := p, after := #[{ on := 9, ground := Ground.guard }], guard := some (9, true) }, { dst := some 29, op := Op.move (Operand.tmp 3), type := 3, pos := p, after := #[{ on := 9, ground := Ground.guard }], guard := some (9, true) }, { dst := some 30, op := Op.indexAddr 24 (Operand.tmp 28) (Operand.tmp 29), type := 0, pos := p, after := #[{ on := 15, ground := Ground.data }, { on := 16, ground := Ground.data }, { on := 9, ground := Ground.guard }], guard := some (9, true) }, { dst := some 31, op := Op.load 9 (Operand.tmp 30), type := 9, pos := p, after := #[{ on := 17, ground := Ground.data }, { on := 9, ground := Ground.guard }], guard := some (9, true) }, { dst := some 32, op := Op.binOp BinOp.geq 9 (Operand.tmp 27) (Operand.tmp 31) 9, type := 4, pos := p, after := #[{ on := 14, ground := Ground.data }, { on := 18, ground := Ground.data }, { on := 9, ground := Ground.guard }], guard := some (9, true) }, { dst := some 33, op := Op.pick (Operand.tmp 22) (Operand.tmp 32) (Operand.const (Value.bool false)), type := 4, pos := p, after := #[{ on := 9, ground := Ground.data }, { on := 19, ground := Ground.data }, { on := 6, ground := Ground.guard }], guard := some (6, false) }, { dst := some 34, op := Op.pick (Operand.tmp 19) (Operand.const (Value.bool true)) (Operand.tmp 33), type := 4, pos := p, after := #[{ on := 6, ground := Ground.data }, { on := 20, ground := Ground.data }], guard := none }] true).wp Try.prog Q a w := by
  refine wp_region_K (fun w' => Below w.heap.size w w') (by kernel_rfl) ?_
  have hC : Below w.heap.size w w.drew := (Below.refl _ _).drew
  have g0 : ∀ w', Below w.heap.size w w' → w'.cell? (x.add k) = some (.string s) := fun w' h => cell_below h c0 (block_lt c0)
  refine wpK_take 0 _ (.slice (some x) N c) (by kernel_rfl) rfl hC (Same.wants (rfl) fun w' hw' => ex_move 0 rfl e0) ?_
  obtain ⟨A1, hA1⟩ : ∃ A, A = a.put (some 13) (.slice (some x) N c) := ⟨_, rfl⟩
  refine (show wpK _ _ _ _ _ _ _ (a.put (some 13) (.slice (some x) N c)) _ from ?_)
  rw [← hA1]
  have z1 := size_of hA1 hsz
  have f1_0 := sl_ne hA1 (by decide) e0
  have f1_3 := sl_ne hA1 (by decide) e3
  have f1_13 := sl_same hA1 hsz (by decide)
  refine wpK_take 1 _ (.int .i64 k) (by kernel_rfl) rfl hC (Same.wants (rfl) fun w' hw' => ex_move 3 rfl f1_3) ?_
  obtain ⟨A2, hA2⟩ : ∃ A, A = A1.put (some 14) (.int .i64 k) := ⟨_, rfl⟩
  refine (show wpK _ _ _ _ _ _ _ (A1.put (some 14) (.int .i64 k)) _ from ?_)
  rw [← hA2]
  have z2 := size_of hA2 z1
  have f2_0 := sl_ne hA2 (by decide) f1_0
  have f2_3 := sl_ne hA2 (by decide) f1_3
  have f2_13 := sl_ne hA2 (by decide) f1_13
  have f2_14 := sl_same hA2 z1 (by decide)
  clear f1_0 f1_3 f1_13
  refine wpK_take 2 _ (.pointer (some (x.add k))) (by kernel_rfl) rfl hC (Same.wants (rfl) fun w' hw' => ex_index 13 14 rfl f2_13 f2_14 hk) ?_
  obtain ⟨A3, hA3⟩ : ∃ A, A = A2.put (some 15) (.pointer (some (x.add k))) := ⟨_, rfl⟩
  refine (show wpK _ _ _ _ _ _ _ (A2.put (some 15) (.pointer (some (x.add k)))) _ from ?_)
  rw [← hA3]
  have z3 := size_of hA3 z2
  have f3_0 := sl_ne hA3 (by decide) f2_0
  have f3_3 := sl_ne hA3 (by decide) f2_3
  have f3_13 := sl_ne hA3 (by decide) f2_13
  have f3_14 := sl_ne hA3 (by decide) f2_14
  have f3_15 := sl_same hA3 z2 (by decide)
  clear f2_0 f2_3 f2_13 f2_14
  refine wpK_take 3 _ (.string s) (by kernel_rfl) rfl hC (Same.wants (rfl) fun w' hw' => ex_load 15 rfl f3_15 (g0 w' hw')) ?_
  obtain ⟨A4, hA4⟩ : ∃ A, A = A3.put (some 16) (.string s) := ⟨_, rfl⟩
  refine (show wpK _ _ _ _ _ _ _ (A3.put (some 16) (.string s)) _ from ?_)
  rw [← hA4]
  have z4 := size_of hA4 z3
  have f4_0 := sl_ne hA4 (by decide) f3_0
  have f4_3 := sl_ne hA4 (by decide) f3_3
  have f4_13 := sl_ne hA4 (by decide) f3_13
  have f4_14 := sl_ne hA4 (by decide) f3_14
  have f4_15 := sl_ne hA4 (by decide) f3_15
  have f4_16 := sl_same hA4 z3 (by decide)
  clear f3_0 f3_3 f3_13 f3_14 f3_15
  refine wpK_one 4 _ (by kernel_rfl) rfl (rfl) (ok_call1 36 16 rfl f4_16 cf36 ((n1 _).mono ?_))
  rintro en w1 ⟨rfl, hb1⟩
  refine ⟨_, rfl, ?_⟩
  have hC1 : Below w.heap.size w w1 := hC.trans (hb1.mono hC.size)
  refine ⟨hC1, ?_⟩
  obtain ⟨A5, hA5⟩ : ∃ A, A = A4.put (some 17) (.bool true) := ⟨_, rfl⟩
  refine (show wpK _ _ _ _ _ _ _ (A4.put (some 17) (.bool true)) _ from ?_)
  rw [← hA5]
  have z5 := size_of hA5 z4
  have f5_0 := sl_ne hA5 (by decide) f4_0
  have f5_3 := sl_ne hA5 (by decide) f4_3
  have f5_13 := sl_ne hA5 (by decide) f4_13
  have f5_14 := sl_ne hA5 (by decide) f4_14
  have f5_15 := sl_ne hA5 (by decide) f4_15
  have f5_16 := sl_ne hA5 (by decide) f4_16
  have f5_17 := sl_same hA5 z4 (by decide)
  clear f4_0 f4_3 f4_13 f4_14 f4_15 f4_16
  refine wpK_take 5 _ (.bool false) (by kernel_rfl) rfl hC1 (Same.wants (rfl) fun w' hw' => ex_not 17 rfl f5_17) ?_
  obtain ⟨A6, hA6⟩ : ∃ A, A = A5.put (some 18) (.bool false) := ⟨_, rfl⟩
  refine (show wpK _ _ _ _ _ _ _ (A5.put (some 18) (.bool false)) _ from ?_)
  rw [← hA6]
  have z6 := size_of hA6 z5
  have f6_0 := sl_ne hA6 (by decide) f5_0
  have f6_3 := sl_ne hA6 (by decide) f5_3
  have f6_13 := sl_ne hA6 (by decide) f5_13
  have f6_14 := sl_ne hA6 (by decide) f5_14
  have f6_15 := sl_ne hA6 (by decide) f5_15
  have f6_16 := sl_ne hA6 (by decide) f5_16
  have f6_17 := sl_ne hA6 (by decide) f5_17
  have f6_18 := sl_same hA6 z5 (by decide)
  clear f5_0 f5_3 f5_13 f5_14 f5_15 f5_16 f5_17
  refine wpK_take 6 _ (.bool false) (by kernel_rfl) rfl hC1 (Same.wants (rfl) fun w' hw' => ex_move 18 rfl f6_18) ?_
  obtain ⟨A7, hA7⟩ : ∃ A, A = A6.put (some 19) (.bool false) := ⟨_, rfl⟩
  refine (show wpK _ _ _ _ _ _ _ (A6.put (some 19) (.bool false)) _ from ?_)
  rw [← hA7]
  have z7 := size_of hA7 z6
  have f7_0 := sl_ne hA7 (by decide) f6_0
  have f7_3 := sl_ne hA7 (by decide) f6_3
  have f7_13 := sl_ne hA7 (by decide) f6_13
  have f7_14 := sl_ne hA7 (by decide) f6_14
  have f7_15 := sl_ne hA7 (by decide) f6_15
  have f7_16 := sl_ne hA7 (by decide) f6_16
  have f7_17 := sl_ne hA7 (by decide) f6_17
  have f7_18 := sl_ne hA7 (by decide) f6_18
  have f7_19 := sl_same hA7 z6 (by decide)
  clear f6_0 f6_3 f6_13 f6_14 f6_15 f6_16 f6_17 f6_18
  refine wpK_take 7 _ (.int .i64 k) (by kernel_rfl) rfl hC1 (Same.wants (want 6 19 rfl rfl f7_19) fun w' hw' => ex_move 3 rfl f7_3) ?_
  obtain ⟨A8, hA8⟩ : ∃ A, A = A7.put (some 20) (.int .i64 k) := ⟨_, rfl⟩
  refine (show wpK _ _ _ _ _ _ _ (A7.put (some 20) (.int .i64 k)) _ from ?_)
  rw [← hA8]
  have z8 := size_of hA8 z7
  have f8_0 := sl_ne hA8 (by decide) f7_0
  have f8_3 := sl_ne hA8 (by decide) f7_3
  have f8_13 := sl_ne hA8 (by decide) f7_13
  have f8_14 := sl_ne hA8 (by decide) f7_14
  have f8_15 := sl_ne hA8 (by decide) f7_15
  have f8_16 := sl_ne hA8 (by decide) f7_16
  have f8_17 := sl_ne hA8 (by decide) f7_17
  have f8_18 := sl_ne hA8 (by decide) f7_18
  have f8_19 := sl_ne hA8 (by decide) f7_19
  have f8_20 := sl_same hA8 z7 (by decide)
  clear f7_0 f7_3 f7_13 f7_14 f7_15 f7_16 f7_17 f7_18 f7_19
  refine wpK_take 8 _ (.bool false) (by kernel_rfl) rfl hC1 (Same.wants (want 6 19 rfl rfl f8_19) fun w' hw' => ex_gtr 20 rfl f8_20 hk0) ?_
  obtain ⟨A9, hA9⟩ : ∃ A, A = A8.put (some 21) (.bool false) := ⟨_, rfl⟩
  refine (show wpK _ _ _ _ _ _ _ (A8.put (some 21) (.bool false)) _ from ?_)
  rw [← hA9]
  have z9 := size_of hA9 z8
  have f9_0 := sl_ne hA9 (by decide) f8_0
  have f9_3 := sl_ne hA9 (by decide) f8_3
  have f9_13 := sl_ne hA9 (by decide) f8_13
  have f9_14 := sl_ne hA9 (by decide) f8_14
  have f9_15 := sl_ne hA9 (by decide) f8_15
  have f9_16 := sl_ne hA9 (by decide) f8_16
  have f9_17 := sl_ne hA9 (by decide) f8_17
  have f9_18 := sl_ne hA9 (by decide) f8_18
  have f9_19 := sl_ne hA9 (by decide) f8_19
  have f9_20 := sl_ne hA9 (by decide) f8_20
  have f9_21 := sl_same hA9 z8 (by decide)
  clear f8_0 f8_3 f8_13 f8_14 f8_15 f8_16 f8_17 f8_18 f8_19 f8_20
  refine wpK_take 9 _ (.bool false) (by kernel_rfl) rfl hC1 (Same.wants (want 6 19 rfl rfl f9_19) fun w' hw' => ex_move 21 rfl f9_21) ?_
  obtain ⟨A10, hA10⟩ : ∃ A, A = A9.put (some 22) (.bool false) := ⟨_, rfl⟩
  refine (show wpK _ _ _ _ _ _ _ (A9.put (some 22) (.bool false)) _ from ?_)
  rw [← hA10]
  have z10 := size_of hA10 z9
  have f10_0 := sl_ne hA10 (by decide) f9_0
  have f10_3 := sl_ne hA10 (by decide) f9_3
  have f10_13 := sl_ne hA10 (by decide) f9_13
  have f10_14 := sl_ne hA10 (by decide) f9_14
  have f10_15 := sl_ne hA10 (by decide) f9_15
  have f10_16 := sl_ne hA10 (by decide) f9_16
  have f10_17 := sl_ne hA10 (by decide) f9_17
  have f10_18 := sl_ne hA10 (by decide) f9_18
  have f10_19 := sl_ne hA10 (by decide) f9_19
  have f10_20 := sl_ne hA10 (by decide) f9_20
  have f10_21 := sl_ne hA10 (by decide) f9_21
  have f10_22 := sl_same hA10 z9 (by decide)
  clear f9_0 f9_3 f9_13 f9_14 f9_15 f9_16 f9_17 f9_18 f9_19 f9_20 f9_21
  refine wpK_take 10 _ undef (by kernel_rfl) rfl hC1 (Same.skips (unwant 9 22 rfl rfl f10_22 (by simp [undef]))) ?_
  obtain ⟨A11, hA11⟩ : ∃ A, A = A10.put (some 23) (undef) := ⟨_, rfl⟩
  refine (show wpK _ _ _ _ _ _ _ (A10.put (some 23) (undef)) _ from ?_)
  rw [← hA11]
  have z11 := size_of hA11 z10
  have f11_0 := sl_ne hA11 (by decide) f10_0
  have f11_3 := sl_ne hA11 (by decide) f10_3
  have f11_13 := sl_ne hA11 (by decide) f10_13
  have f11_14 := sl_ne hA11 (by decide) f10_14
  have f11_15 := sl_ne hA11 (by decide) f10_15
  have f11_16 := sl_ne hA11 (by decide) f10_16
  have f11_17 := sl_ne hA11 (by decide) f10_17
  have f11_18 := sl_ne hA11 (by decide) f10_18
  have f11_19 := sl_ne hA11 (by decide) f10_19
  have f11_20 := sl_ne hA11 (by decide) f10_20
  have f11_21 := sl_ne hA11 (by decide) f10_21
  have f11_22 := sl_ne hA11 (by decide) f10_22
  have f11_23 := sl_same hA11 z10 (by decide)
  clear f10_0 f10_3 f10_13 f10_14 f10_15 f10_16 f10_17 f10_18 f10_19 f10_20 f10_21 f10_22
  refine wpK_take 11 _ undef (by kernel_rfl) rfl hC1 (Same.skips (unwant 9 22 rfl rfl f11_22 (by simp [undef]))) ?_
  obtain ⟨A12, hA12⟩ : ∃ A, A = A11.put (some 24) (undef) := ⟨_, rfl⟩
  refine (show wpK _ _ _ _ _ _ _ (A11.put (some 24) (undef)) _ from ?_)
  rw [← hA12]
  have z12 := size_of hA12 z11
  have f12_0 := sl_ne hA12 (by decide) f11_0
  have f12_3 := sl_ne hA12 (by decide) f11_3
  have f12_13 := sl_ne hA12 (by decide) f11_13
  have f12_14 := sl_ne hA12 (by decide) f11_14
  have f12_15 := sl_ne hA12 (by decide) f11_15
  have f12_16 := sl_ne hA12 (by decide) f11_16
  have f12_17 := sl_ne hA12 (by decide) f11_17
  have f12_18 := sl_ne hA12 (by decide) f11_18
  have f12_19 := sl_ne hA12 (by decide) f11_19
  have f12_20 := sl_ne hA12 (by decide) f11_20
  have f12_21 := sl_ne hA12 (by decide) f11_21
  have f12_22 := sl_ne hA12 (by decide) f11_22
  have f12_23 := sl_ne hA12 (by decide) f11_23
  have f12_24 := sl_same hA12 z11 (by decide)
  clear f11_0 f11_3 f11_13 f11_14 f11_15 f11_16 f11_17 f11_18 f11_19 f11_20 f11_21 f11_22 f11_23
  refine wpK_take 12 _ undef (by kernel_rfl) rfl hC1 (Same.skips (unwant 9 22 rfl rfl f12_22 (by simp [undef]))) ?_
  obtain ⟨A13, hA13⟩ : ∃ A, A = A12.put (some 25) (undef) := ⟨_, rfl⟩
  refine (show wpK _ _ _ _ _ _ _ (A12.put (some 25) (undef)) _ from ?_)
  rw [← hA13]
  have z13 := size_of hA13 z12
  have f13_0 := sl_ne hA13 (by decide) f12_0
  have f13_3 := sl_ne hA13 (by decide) f12_3
  have f13_13 := sl_ne hA13 (by decide) f12_13
  have f13_14 := sl_ne hA13 (by decide) f12_14
  have f13_15 := sl_ne hA13 (by decide) f12_15
  have f13_16 := sl_ne hA13 (by decide) f12_16
  have f13_17 := sl_ne hA13 (by decide) f12_17
  have f13_18 := sl_ne hA13 (by decide) f12_18
  have f13_19 := sl_ne hA13 (by decide) f12_19
  have f13_20 := sl_ne hA13 (by decide) f12_20
  have f13_21 := sl_ne hA13 (by decide) f12_21
  have f13_22 := sl_ne hA13 (by decide) f12_22
  have f13_23 := sl_ne hA13 (by decide) f12_23
  have f13_24 := sl_ne hA13 (by decide) f12_24
  have f13_25 := sl_same hA13 z12 (by decide)
  clear f12_0 f12_3 f12_13 f12_14 f12_15 f12_16 f12_17 f12_18 f12_19 f12_20 f12_21 f12_22 f12_23 f12_24
  refine wpK_take 13 _ undef (by kernel_rfl) rfl hC1 (Same.skips (unwant 9 22 rfl rfl f13_22 (by simp [undef]))) ?_
  obtain ⟨A14, hA14⟩ : ∃ A, A = A13.put (some 26) (undef) := ⟨_, rfl⟩
  refine (show wpK _ _ _ _ _ _ _ (A13.put (some 26) (undef)) _ from ?_)
  rw [← hA14]
  have z14 := size_of hA14 z13
  have f14_0 := sl_ne hA14 (by decide) f13_0
  have f14_3 := sl_ne hA14 (by decide) f13_3
  have f14_13 := sl_ne hA14 (by decide) f13_13
  have f14_14 := sl_ne hA14 (by decide) f13_14
  have f14_15 := sl_ne hA14 (by decide) f13_15
  have f14_16 := sl_ne hA14 (by decide) f13_16
  have f14_17 := sl_ne hA14 (by decide) f13_17
  have f14_18 := sl_ne hA14 (by decide) f13_18
  have f14_19 := sl_ne hA14 (by decide) f13_19
  have f14_20 := sl_ne hA14 (by decide) f13_20
  have f14_21 := sl_ne hA14 (by decide) f13_21
  have f14_22 := sl_ne hA14 (by decide) f13_22
  have f14_23 := sl_ne hA14 (by decide) f13_23
  have f14_24 := sl_ne hA14 (by decide) f13_24
  have f14_25 := sl_ne hA14 (by decide) f13_25
  have f14_26 := sl_same hA14 z13 (by decide)
  clear f13_0 f13_3 f13_13 f13_14 f13_15 f13_16 f13_17 f13_18 f13_19 f13_20 f13_21 f13_22 f13_23 f13_24 f13_25
  refine wpK_take 14 _ undef (by kernel_rfl) rfl hC1 (Same.skips (unwant 9 22 rfl rfl f14_22 (by simp [undef]))) ?_
  obtain ⟨A15, hA15⟩ : ∃ A, A = A14.put (some 27) (undef) := ⟨_, rfl⟩
  refine (show wpK _ _ _ _ _ _ _ (A14.put (some 27) (undef)) _ from ?_)
  rw [← hA15]
  have z15 := size_of hA15 z14
  have f15_0 := sl_ne hA15 (by decide) f14_0
  have f15_3 := sl_ne hA15 (by decide) f14_3
  have f15_13 := sl_ne hA15 (by decide) f14_13
  have f15_14 := sl_ne hA15 (by decide) f14_14
  have f15_15 := sl_ne hA15 (by decide) f14_15
  have f15_16 := sl_ne hA15 (by decide) f14_16
  have f15_17 := sl_ne hA15 (by decide) f14_17
  have f15_18 := sl_ne hA15 (by decide) f14_18
  have f15_19 := sl_ne hA15 (by decide) f14_19
  have f15_20 := sl_ne hA15 (by decide) f14_20
  have f15_21 := sl_ne hA15 (by decide) f14_21
  have f15_22 := sl_ne hA15 (by decide) f14_22
  have f15_23 := sl_ne hA15 (by decide) f14_23
  have f15_24 := sl_ne hA15 (by decide) f14_24
  have f15_25 := sl_ne hA15 (by decide) f14_25
  have f15_26 := sl_ne hA15 (by decide) f14_26
  have f15_27 := sl_same hA15 z14 (by decide)
  clear f14_0 f14_3 f14_13 f14_14 f14_15 f14_16 f14_17 f14_18 f14_19 f14_20 f14_21 f14_22 f14_23 f14_24 f14_25 f14_26
  refine wpK_take 15 _ undef (by kernel_rfl) rfl hC1 (Same.skips (unwant 9 22 rfl rfl f15_22 (by simp [undef]))) ?_
  obtain ⟨A16, hA16⟩ : ∃ A, A = A15.put (some 28) (undef) := ⟨_, rfl⟩
  refine (show wpK _ _ _ _ _ _ _ (A15.put (some 28) (undef)) _ from ?_)
  rw [← hA16]
  have z16 := size_of hA16 z15
  have f16_0 := sl_ne hA16 (by decide) f15_0
  have f16_3 := sl_ne hA16 (by decide) f15_3
  have f16_13 := sl_ne hA16 (by decide) f15_13
  have f16_14 := sl_ne hA16 (by decide) f15_14
  have f16_15 := sl_ne hA16 (by decide) f15_15
  have f16_16 := sl_ne hA16 (by decide) f15_16
  have f16_17 := sl_ne hA16 (by decide) f15_17
  have f16_18 := sl_ne hA16 (by decide) f15_18
  have f16_19 := sl_ne hA16 (by decide) f15_19
  have f16_20 := sl_ne hA16 (by decide) f15_20
  have f16_21 := sl_ne hA16 (by decide) f15_21
  have f16_22 := sl_ne hA16 (by decide) f15_22
  have f16_23 := sl_ne hA16 (by decide) f15_23
  have f16_24 := sl_ne hA16 (by decide) f15_24
  have f16_25 := sl_ne hA16 (by decide) f15_25
  have f16_26 := sl_ne hA16 (by decide) f15_26
  have f16_27 := sl_ne hA16 (by decide) f15_27
  have f16_28 := sl_same hA16 z15 (by decide)
  clear f15_0 f15_3 f15_13 f15_14 f15_15 f15_16 f15_17 f15_18 f15_19 f15_20 f15_21 f15_22 f15_23 f15_24 f15_25 f15_26 f15_27
  refine wpK_take 16 _ undef (by kernel_rfl) rfl hC1 (Same.skips (unwant 9 22 rfl rfl f16_22 (by simp [undef]))) ?_
  obtain ⟨A17, hA17⟩ : ∃ A, A = A16.put (some 29) (undef) := ⟨_, rfl⟩
  refine (show wpK _ _ _ _ _ _ _ (A16.put (some 29) (undef)) _ from ?_)
  rw [← hA17]
  have z17 := size_of hA17 z16
  have f17_0 := sl_ne hA17 (by decide) f16_0
  have f17_3 := sl_ne hA17 (by decide) f16_3
  have f17_13 := sl_ne hA17 (by decide) f16_13
  have f17_14 := sl_ne hA17 (by decide) f16_14
  have f17_15 := sl_ne hA17 (by decide) f16_15
  have f17_16 := sl_ne hA17 (by decide) f16_16
  have f17_17 := sl_ne hA17 (by decide) f16_17
  have f17_18 := sl_ne hA17 (by decide) f16_18
  have f17_19 := sl_ne hA17 (by decide) f16_19
  have f17_20 := sl_ne hA17 (by decide) f16_20
  have f17_21 := sl_ne hA17 (by decide) f16_21
  have f17_22 := sl_ne hA17 (by decide) f16_22
  have f17_23 := sl_ne hA17 (by decide) f16_23
  have f17_24 := sl_ne hA17 (by decide) f16_24
  have f17_25 := sl_ne hA17 (by decide) f16_25
  have f17_26 := sl_ne hA17 (by decide) f16_26
  have f17_27 := sl_ne hA17 (by decide) f16_27
  have f17_28 := sl_ne hA17 (by decide) f16_28
  have f17_29 := sl_same hA17 z16 (by decide)
  clear f16_0 f16_3 f16_13 f16_14 f16_15 f16_16 f16_17 f16_18 f16_19 f16_20 f16_21 f16_22 f16_23 f16_24 f16_25 f16_26 f16_27 f16_28
  refine wpK_take 17 _ undef (by kernel_rfl) rfl hC1 (Same.skips (unwant 9 22 rfl rfl f17_22 (by simp [undef]))) ?_
  obtain ⟨A18, hA18⟩ : ∃ A, A = A17.put (some 30) (undef) := ⟨_, rfl⟩
  refine (show wpK _ _ _ _ _ _ _ (A17.put (some 30) (undef)) _ from ?_)
  rw [← hA18]
  have z18 := size_of hA18 z17
  have f18_0 := sl_ne hA18 (by decide) f17_0
  have f18_3 := sl_ne hA18 (by decide) f17_3
  have f18_13 := sl_ne hA18 (by decide) f17_13
  have f18_14 := sl_ne hA18 (by decide) f17_14
  have f18_15 := sl_ne hA18 (by decide) f17_15
  have f18_16 := sl_ne hA18 (by decide) f17_16
  have f18_17 := sl_ne hA18 (by decide) f17_17
  have f18_18 := sl_ne hA18 (by decide) f17_18
  have f18_19 := sl_ne hA18 (by decide) f17_19
  have f18_20 := sl_ne hA18 (by decide) f17_20
  have f18_21 := sl_ne hA18 (by decide) f17_21
  have f18_22 := sl_ne hA18 (by decide) f17_22
  have f18_23 := sl_ne hA18 (by decide) f17_23
  have f18_24 := sl_ne hA18 (by decide) f17_24
  have f18_25 := sl_ne hA18 (by decide) f17_25
  have f18_26 := sl_ne hA18 (by decide) f17_26
  have f18_27 := sl_ne hA18 (by decide) f17_27
  have f18_28 := sl_ne hA18 (by decide) f17_28
  have f18_29 := sl_ne hA18 (by decide) f17_29
  have f18_30 := sl_same hA18 z17 (by decide)
  clear f17_0 f17_3 f17_13 f17_14 f17_15 f17_16 f17_17 f17_18 f17_19 f17_20 f17_21 f17_22 f17_23 f17_24 f17_25 f17_26 f17_27 f17_28 f17_29
  refine wpK_take 18 _ undef (by kernel_rfl) rfl hC1 (Same.skips (unwant 9 22 rfl rfl f18_22 (by simp [undef]))) ?_
  obtain ⟨A19, hA19⟩ : ∃ A, A = A18.put (some 31) (undef) := ⟨_, rfl⟩
  refine (show wpK _ _ _ _ _ _ _ (A18.put (some 31) (undef)) _ from ?_)
  rw [← hA19]
  have z19 := size_of hA19 z18
  have f19_0 := sl_ne hA19 (by decide) f18_0
  have f19_3 := sl_ne hA19 (by decide) f18_3
  have f19_13 := sl_ne hA19 (by decide) f18_13
  have f19_14 := sl_ne hA19 (by decide) f18_14
  have f19_15 := sl_ne hA19 (by decide) f18_15
  have f19_16 := sl_ne hA19 (by decide) f18_16
  have f19_17 := sl_ne hA19 (by decide) f18_17
  have f19_18 := sl_ne hA19 (by decide) f18_18
  have f19_19 := sl_ne hA19 (by decide) f18_19
  have f19_20 := sl_ne hA19 (by decide) f18_20
  have f19_21 := sl_ne hA19 (by decide) f18_21
  have f19_22 := sl_ne hA19 (by decide) f18_22
  have f19_23 := sl_ne hA19 (by decide) f18_23
  have f19_24 := sl_ne hA19 (by decide) f18_24
  have f19_25 := sl_ne hA19 (by decide) f18_25
  have f19_26 := sl_ne hA19 (by decide) f18_26
  have f19_27 := sl_ne hA19 (by decide) f18_27
  have f19_28 := sl_ne hA19 (by decide) f18_28
  have f19_29 := sl_ne hA19 (by decide) f18_29
  have f19_30 := sl_ne hA19 (by decide) f18_30
  have f19_31 := sl_same hA19 z18 (by decide)
  clear f18_0 f18_3 f18_13 f18_14 f18_15 f18_16 f18_17 f18_18 f18_19 f18_20 f18_21 f18_22 f18_23 f18_24 f18_25 f18_26 f18_27 f18_28 f18_29 f18_30
  refine wpK_take 19 _ undef (by kernel_rfl) rfl hC1 (Same.skips (unwant 9 22 rfl rfl f19_22 (by simp [undef]))) ?_
  obtain ⟨A20, hA20⟩ : ∃ A, A = A19.put (some 32) (undef) := ⟨_, rfl⟩
  refine (show wpK _ _ _ _ _ _ _ (A19.put (some 32) (undef)) _ from ?_)
  rw [← hA20]
  have z20 := size_of hA20 z19
  have f20_0 := sl_ne hA20 (by decide) f19_0
  have f20_3 := sl_ne hA20 (by decide) f19_3
  have f20_13 := sl_ne hA20 (by decide) f19_13
  have f20_14 := sl_ne hA20 (by decide) f19_14
  have f20_15 := sl_ne hA20 (by decide) f19_15
  have f20_16 := sl_ne hA20 (by decide) f19_16
  have f20_17 := sl_ne hA20 (by decide) f19_17
  have f20_18 := sl_ne hA20 (by decide) f19_18
  have f20_19 := sl_ne hA20 (by decide) f19_19
  have f20_20 := sl_ne hA20 (by decide) f19_20
  have f20_21 := sl_ne hA20 (by decide) f19_21
  have f20_22 := sl_ne hA20 (by decide) f19_22
  have f20_23 := sl_ne hA20 (by decide) f19_23
  have f20_24 := sl_ne hA20 (by decide) f19_24
  have f20_25 := sl_ne hA20 (by decide) f19_25
  have f20_26 := sl_ne hA20 (by decide) f19_26
  have f20_27 := sl_ne hA20 (by decide) f19_27
  have f20_28 := sl_ne hA20 (by decide) f19_28
  have f20_29 := sl_ne hA20 (by decide) f19_29
  have f20_30 := sl_ne hA20 (by decide) f19_30
  have f20_31 := sl_ne hA20 (by decide) f19_31
  have f20_32 := sl_same hA20 z19 (by decide)
  clear f19_0 f19_3 f19_13 f19_14 f19_15 f19_16 f19_17 f19_18 f19_19 f19_20 f19_21 f19_22 f19_23 f19_24 f19_25 f19_26 f19_27 f19_28 f19_29 f19_30 f19_31
  refine wpK_take 20 _ (.bool false) (by kernel_rfl) rfl hC1 (Same.wants (want 6 19 rfl rfl f20_19) fun w' hw' => ex_pickC 22 32 rfl f20_22) ?_
  obtain ⟨A21, hA21⟩ : ∃ A, A = A20.put (some 33) (.bool false) := ⟨_, rfl⟩
  refine (show wpK _ _ _ _ _ _ _ (A20.put (some 33) (.bool false)) _ from ?_)
  rw [← hA21]
  have z21 := size_of hA21 z20
  have f21_0 := sl_ne hA21 (by decide) f20_0
  have f21_3 := sl_ne hA21 (by decide) f20_3
  have f21_13 := sl_ne hA21 (by decide) f20_13
  have f21_14 := sl_ne hA21 (by decide) f20_14
  have f21_15 := sl_ne hA21 (by decide) f20_15
  have f21_16 := sl_ne hA21 (by decide) f20_16
  have f21_17 := sl_ne hA21 (by decide) f20_17
  have f21_18 := sl_ne hA21 (by decide) f20_18
  have f21_19 := sl_ne hA21 (by decide) f20_19
  have f21_20 := sl_ne hA21 (by decide) f20_20
  have f21_21 := sl_ne hA21 (by decide) f20_21
  have f21_22 := sl_ne hA21 (by decide) f20_22
  have f21_23 := sl_ne hA21 (by decide) f20_23
  have f21_24 := sl_ne hA21 (by decide) f20_24
  have f21_25 := sl_ne hA21 (by decide) f20_25
  have f21_26 := sl_ne hA21 (by decide) f20_26
  have f21_27 := sl_ne hA21 (by decide) f20_27
  have f21_28 := sl_ne hA21 (by decide) f20_28
  have f21_29 := sl_ne hA21 (by decide) f20_29
  have f21_30 := sl_ne hA21 (by decide) f20_30
  have f21_31 := sl_ne hA21 (by decide) f20_31
  have f21_32 := sl_ne hA21 (by decide) f20_32
  have f21_33 := sl_same hA21 z20 (by decide)
  clear f20_0 f20_3 f20_13 f20_14 f20_15 f20_16 f20_17 f20_18 f20_19 f20_20 f20_21 f20_22 f20_23 f20_24 f20_25 f20_26 f20_27 f20_28 f20_29 f20_30 f20_31 f20_32
  refine wpK_take 21 _ (.bool false) (by kernel_rfl) rfl hC1 (Same.wants (rfl) fun w' hw' => ex_pickF 19 33 rfl f21_19 f21_33) ?_
  obtain ⟨A22, hA22⟩ : ∃ A, A = A21.put (some 34) (.bool false) := ⟨_, rfl⟩
  refine (show wpK _ _ _ _ _ _ _ (A21.put (some 34) (.bool false)) _ from ?_)
  rw [← hA22]
  have z22 := size_of hA22 z21
  have f22_0 := sl_ne hA22 (by decide) f21_0
  have f22_3 := sl_ne hA22 (by decide) f21_3
  have f22_13 := sl_ne hA22 (by decide) f21_13
  have f22_14 := sl_ne hA22 (by decide) f21_14
  have f22_15 := sl_ne hA22 (by decide) f21_15
  have f22_16 := sl_ne hA22 (by decide) f21_16
  have f22_17 := sl_ne hA22 (by decide) f21_17
  have f22_18 := sl_ne hA22 (by decide) f21_18
  have f22_19 := sl_ne hA22 (by decide) f21_19
  have f22_20 := sl_ne hA22 (by decide) f21_20
  have f22_21 := sl_ne hA22 (by decide) f21_21
  have f22_22 := sl_ne hA22 (by decide) f21_22
  have f22_23 := sl_ne hA22 (by decide) f21_23
  have f22_24 := sl_ne hA22 (by decide) f21_24
  have f22_25 := sl_ne hA22 (by decide) f21_25
  have f22_26 := sl_ne hA22 (by decide) f21_26
  have f22_27 := sl_ne hA22 (by decide) f21_27
  have f22_28 := sl_ne hA22 (by decide) f21_28
  have f22_29 := sl_ne hA22 (by decide) f21_29
  have f22_30 := sl_ne hA22 (by decide) f21_30
  have f22_31 := sl_ne hA22 (by decide) f21_31
  have f22_32 := sl_ne hA22 (by decide) f21_32
  have f22_33 := sl_ne hA22 (by decide) f21_33
  have f22_34 := sl_same hA22 z21 (by decide)
  clear f21_0 f21_3 f21_13 f21_14 f21_15 f21_16 f21_17 f21_18 f21_19 f21_20 f21_21 f21_22 f21_23 f21_24 f21_25 f21_26 f21_27 f21_28 f21_29 f21_30 f21_31 f21_32 f21_33
  refine wpK_end (by kernel_rfl) ?_
  have := hQ w1 hC1
  clear f22_0 f22_3 f22_13 f22_14 f22_15 f22_16 f22_17 f22_18 f22_19 f22_20 f22_21 f22_22 f22_23 f22_24 f22_25 f22_26 f22_27 f22_28 f22_29 f22_30 f22_31 f22_32 f22_33 f22_34
  subst hA22
  subst hA21
  subst hA20
  subst hA19
  subst hA18
  subst hA17
  subst hA16
  subst hA15
  subst hA14
  subst hA13
  subst hA12
  subst hA11
  subst hA10
  subst hA9
  subst hA8
  subst hA7
  subst hA6
  subst hA5
  subst hA4
  subst hA3
  subst hA2
  subst hA1
  exact this

end Go.Proofs.Ytgcicillmljglaa
