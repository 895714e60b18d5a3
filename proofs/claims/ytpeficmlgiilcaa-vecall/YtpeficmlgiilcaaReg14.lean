/- The test of VecAll's round: all that was answered is the same; in whatever order it is asked. -/
import Derived.Test.YtpeficmlgiilcaaOps2
namespace Go.Proofs.Ytpeficmlgiilcaa
open Go.RowKit
variable {p44 : String}

set_option maxHeartbeats 3200000 in
theorem reg14 {Q : Exit → Act → World → Prop} (a : Act) (w : World) (L b1 b2 b3 b4 : Nat) (i k p q u v r s e r2 s2 e2 : Int) (f1 f2 : Bool) (hsz : a.tmps.size = 154)
    (e9 : sl a 9 = .slice (some ⟨L, 0, none⟩) 5 5) (e10 : sl a 10 = .int .i64 i) (e11 : sl a 11 = .int .i64 k) (e12 : sl a 12 = .pointer (some ⟨b1, 0, none⟩)) (e13 : sl a 13 = .int .i64 e) (e14 : sl a 14 = .pointer (some ⟨b2, 0, none⟩)) (e15 : sl a 15 = .int .i64 e) (e16 : sl a 16 = .pointer (some ⟨b3, 0, none⟩)) (e17 : sl a 17 = .int .i64 e2) (e18 : sl a 18 = .pointer (some ⟨b4, 0, none⟩)) (e19 : sl a 19 = .int .i64 e2)
    (hi : 0 ≤ i ∧ i < 5) (hk : 0 ≤ k ∧ k < 5)
    (c0 : w.cell? ⟨L, i.toNat * 2, none⟩ = some (.int .i64 p)) (c1 : w.cell? ⟨L, i.toNat * 2 + 1, none⟩ = some (.int .i64 q))
    (c2 : w.cell? ⟨L, k.toNat * 2, none⟩ = some (.int .i64 u)) (c3 : w.cell? ⟨L, k.toNat * 2 + 1, none⟩ = some (.int .i64 v))
    (xk1a : w.cell? ⟨b1, 0, none⟩ = some (.int .i64 r)) (xk1b : w.cell? ⟨b1, 0 + 1, none⟩ = some (.int .i64 s)) (xk2a : w.cell? ⟨b2, 0, none⟩ = some (.int .i64 r)) (xk2b : w.cell? ⟨b2, 0 + 1, none⟩ = some (.int .i64 s)) (xk3a : w.cell? ⟨b3, 0, none⟩ = some (.int .i64 r2)) (xk3b : w.cell? ⟨b3, 0 + 1, none⟩ = some (.int .i64 s2)) (xk4a : w.cell? ⟨b4, 0, none⟩ = some (.int .i64 r2)) (xk4b : w.cell? ⟨b4, 0 + 1, none⟩ = some (.int .i64 s2))
    (hf1 : decide (p ≤ u ∧ q ≤ v) = f1) (hf2 : decide (0 ≤ p ∧ 0 ≤ q) = f2)
    (hQ : ∀ A w', A.tmps.size = 154 → A.defers = a.defers → (∀ t, t ∉ ([153, 152, 151, 146, 150, 149, 148, 147, 145, 144, 143, 142, 141, 140, 139, 138, 129, 137, 136, 135, 134, 133, 132, 131, 130, 128, 127, 126, 125, 124, 123, 122, 121, 120, 119, 118, 117, 116, 115, 114, 113, 112, 111, 110, 109, 108, 107, 106, 105, 104, 103, 102] : List Tmp) → sl A t = sl a t) → sl A 153 = .bool false → Below w.heap.size w w' → Q .normal A w') :
    (Code.region 14 #[{ dst := some 102, op := Op.load 24 (Operand.tmp 12), type := 24, pos := p44, after := #[], guard := none }, { dst := some 103, op := Op.load 24 (Operand.tmp 14), type := 24, pos := p44, after := #[], guard := none }, { dst := some 104, op := Op.binOp BinOp.neq 24 (Operand.tmp 102) (Operand.tmp 103) 24, type := 4, pos := p44, after := #[{ on := 0, ground := Ground.data }, { on := 1, ground := Ground.data }], guard := none }, { dst := some 105, op := Op.move (Operand.tmp 104), type := 4, pos := p44, after := #[{ on := 2, ground := Ground.data }], guard := none }, { dst := some 106, op := Op.move (Operand.tmp 13), type := 27, pos := p44, after := #[{ on := 3, ground := Ground.guard }], guard := some (3, false) }, { dst := some 107, op := Op.move (Operand.tmp 15), type := 3, pos := p44, after := #[{ on := 3, ground := Ground.guard }], guard := some (3, false) }, { dst := some 108, op := Op.binOp BinOp.neq 3 (Operand.tmp 106) (Operand.tmp 107) 3, type := 4, pos := p44, after := #[{ on := 4, ground := Ground.data }, { on := 5, ground := Ground.data }, { on := 3, ground := Ground.guard }], guard := some (3, false) }, { dst := some 109, op := Op.pick (Operand.tmp 105) (Operand.const (Value.bool true)) (Operand.tmp 108), type := 4, pos := p44, after := #[{ on := 3, ground := Ground.data }, { on := 6, ground := Ground.data }], guard := none }, { dst := some 110, op := Op.move (Operand.tmp 109), type := 4, pos := p44, after := #[{ on := 7, ground := Ground.data }, { on := 3, ground := Ground.chain }], guard := none }, { dst := some 111, op := Op.load 24 (Operand.tmp 16), type := 24, pos := p44, after := #[{ on := 8, ground := Ground.guard }], guard := some (8, false) }, { dst := some 112, op := Op.load 24 (Operand.tmp 18), type := 24, pos := p44, after := #[{ on := 8, ground := Ground.guard }], guard := some (8, false) }, { dst := some 113, op := Op.binOp BinOp.neq 24 (Operand.tmp 111) (Operand.tmp 112) 24, type := 4, pos := p44, after := #[{ on := 9, ground := Ground.data }, { on := 10, ground := Ground.data }, { on := 8, ground := Ground.guard }], guard := some (8, false) }, { dst := some 114, op := Op.pick (Operand.tmp 110) (Operand.const (Value.bool true)) (Operand.tmp 113), type := 4, pos := p44, after := #[{ on := 8, ground := Ground.data }, { on := 11, ground := Ground.data }], guard := none }, { dst := some 115, op := Op.move (Operand.tmp 114), type := 4, pos := p44, after := #[{ on := 12, ground := Ground.data }, { on := 8, ground := Ground.chain }], guard := none }, { dst := some 116, op := Op.move (Operand.tmp 17), type := 27, pos := p44, after := #[{ on := 13, ground := Ground.guard }], guard := some (13, false) }, { dst := some 117, op := Op.move (Operand.tmp 19), type := 3, pos := p44, after := #[{ on := 13, ground := Ground.guard }], guard := some (13, false) }, { dst := some 118, op := Op.binOp BinOp.neq 3 (Operand.tmp 116) (Operand.tmp 117) 3, type := 4, pos := p44, after := #[{ on := 14, ground := Ground.data }, { on := 15, ground := Ground.data }, { on := 13, ground := Ground.guard }], guard := some (13, false) }, { dst := some 119, op := Op.pick (Operand.tmp 115) (Operand.const (Value.bool true)) (Operand.tmp 118), type := 4, pos := p44, after := #[{ on := 13, ground := Ground.data }, { on := 16, ground := Ground.data }], guard := none }, { dst := some 120, op := Op.move (Operand.tmp 119), type := 4, pos := p44, after := #[{ on := 17, ground := Ground.data }, { on := 13, ground := Ground.chain }], guard := none }, { dst := some 121, op := Op.move (Operand.tmp 9), type := 26, pos := p44, after := #[{ on := 18, ground := Ground.guard }], guard := some (18, false) }, { dst := some 122, op := Op.move (Operand.tmp 10), type := 3, pos := p44, after := #[{ on := 18, ground := Ground.guard }], guard := some (18, false) }, { dst := some 123, op := Op.indexAddr 26 (Operand.tmp 121) (Operand.tmp 122), type := 0, pos := p44, after := #[{ on := 19, ground := Ground.data }, { on := 20, ground := Ground.data }, { on := 18, ground := Ground.guard }], guard := some (18, false) }, { dst := some 124, op := Op.load 24 (Operand.tmp 123), type := 24, pos := p44, after := #[{ on := 21, ground := Ground.data }, { on := 18, ground := Ground.guard }], guard := some (18, false) }, { dst := some 125, op := Op.move (Operand.tmp 9), type := 26, pos := p44, after := #[{ on := 18, ground := Ground.guard }], guard := some (18, false) }, { dst := some 126, op := Op.move (Operand.tmp 11), type := 3, pos := p44, after := #[{ on := 18, ground := Ground.guard }], guard := some (18, false) }, { dst := some 127, op := Op.indexAddr 26 (Operand.tmp 125) (Operand.tmp 126), type := 0, pos := p44, after := #[{ on := 23, ground := Ground.data }, { on := 24, ground := Ground.data }, { on := 18, ground := Ground.guard }], guard := some (18, false) }, { dst := some 128, op := Op.load 24 (Operand.tmp 127), type := 24, pos := p44, after := #[{ on := 25, ground := Ground.data }, { on := 18, ground := Ground.guard }], guard := some (18, false) }, { dst := some 129, op := Op.call { callee := Callee.value (Operand.func 15), args := #[Operand.tmp 124, Operand.tmp 128], argTypes := #[24, 24] }, type := 4, pos := p44, after := #[{ on := 22, ground := Ground.data }, { on := 26, ground := Ground.data }, { on := 18, ground := Ground.chain }, { on := 18, ground := Ground.guard }], guard := some (18, false) }, { dst := some 130, op := Op.move (Operand.tmp 9), type := 26, pos := p44, after := #[{ on := 18, ground := Ground.guard }], guard := some (18, false) }, { dst := some 131, op := Op.move (Operand.tmp 10), type := 3, pos := p44, after := #[{ on := 18, ground := Ground.guard }], guard := some (18, false) }, { dst := some 132, op := Op.indexAddr 26 (Operand.tmp 130) (Operand.tmp 131), type := 0, pos := p44, after := #[{ on := 28, ground := Ground.data }, { on := 29, ground := Ground.data }, { on := 18, ground := Ground.guard }], guard := some (18, false) }, { dst := some 133, op := Op.load 24 (Operand.tmp 132), type := 24, pos := p44, after := #[{ on := 30, ground := Ground.data }, { on := 18, ground := Ground.guard }], guard := some (18, false) }, { dst := some 134, op := Op.move (Operand.tmp 9), type := 26, pos := p44, after := #[{ on := 18, ground := Ground.guard }], guard := some (18, false) }, { dst := some 135, op := Op.move (Operand.tmp 11), type := 3, pos := p44, after := #[{ on := 18, ground := Ground.guard }], guard := some (18, false) }, { dst := some 136, op := Op.indexAddr 26 (Operand.tmp 134) (Operand.tmp 135), type := 0, pos := p44, after := #[{ on := 32, ground := Ground.data }, { on := 33, ground := Ground.data }, { on := 18, ground := Ground.guard }], guard := some (18, false) }, { dst := some 137, op := Op.load 24 (Operand.tmp 136), type := 24, pos := p44, after := #[{ on := 34, ground := Ground.data }, { on := 18, ground := Ground.guard }], guard := some (18, false) }, { dst := some 138, op := Op.call { callee := Callee.value (Operand.func 16), args := #[Operand.tmp 133, Operand.tmp 137], argTypes := #[24, 24] }, type := 4, pos := p44, after := #[{ on := 31, ground := Ground.data }, { on := 35, ground := Ground.data }, { on := 27, ground := Ground.chain }, { on := 18, ground := Ground.guard }], guard := some (18, false) }, { dst := some 139, op := Op.binOp BinOp.neq 4 (Operand.tmp 129) (Operand.tmp 138) 4, type := 4, pos := p44, after := #[{ on := 27, ground := Ground.data }, { on := 36, ground := Ground.data }, { on := 18, ground := Ground.guard }], guard := some (18, false) }, { dst := some 140, op := Op.pick (Operand.tmp 120) (Operand.const (Value.bool true)) (Operand.tmp 139), type := 4, pos := p44, after := #[{ on := 18, ground := Ground.data }, { on := 37, ground := Ground.data }], guard := none }, { dst := some 141, op := Op.move (Operand.tmp 140), type := 4, pos := p44, after := #[{ on := 38, ground := Ground.data }, { on := 36, ground := Ground.chain }], guard := none }, { dst := some 142, op := Op.move (Operand.tmp 9), type := 26, pos := p44, after := #[{ on := 39, ground := Ground.guard }], guard := some (39, false) }, { dst := some 143, op := Op.move (Operand.tmp 10), type := 3, pos := p44, after := #[{ on := 39, ground := Ground.guard }], guard := some (39, false) }, { dst := some 144, op := Op.indexAddr 26 (Operand.tmp 142) (Operand.tmp 143), type := 0, pos := p44, after := #[{ on := 40, ground := Ground.data }, { on := 41, ground := Ground.data }, { on := 39, ground := Ground.guard }], guard := some (39, false) }, { dst := some 145, op := Op.load 24 (Operand.tmp 144), type := 24, pos := p44, after := #[{ on := 42, ground := Ground.data }, { on := 39, ground := Ground.guard }], guard := some (39, false) }, { dst := some 146, op := Op.call { callee := Callee.value (Operand.func 17), args := #[Operand.tmp 145], argTypes := #[24] }, type := 4, pos := p44, after := #[{ on := 43, ground := Ground.data }, { on := 39, ground := Ground.chain }, { on := 39, ground := Ground.guard }], guard := some (39, false) }, { dst := some 147, op := Op.move (Operand.tmp 9), type := 26, pos := p44, after := #[{ on := 39, ground := Ground.guard }], guard := some (39, false) }, { dst := some 148, op := Op.move (Operand.tmp 10), type := 3, pos := p44, after := #[{ on := 39, ground := Ground.guard }], guard := some (39, false) }, { dst := some 149, op := Op.indexAddr 26 (Operand.tmp 147) (Operand.tmp 148), type := 0, pos := p44, after := #[{ on := 45, ground := Ground.data }, { on := 46, ground := Ground.data }, { on := 39, ground := Ground.guard }], guard := some (39, false) }, { dst := some 150, op := Op.load 24 (Operand.tmp 149), type := 24, pos := p44, after := #[{ on := 47, ground := Ground.data }, { on := 39, ground := Ground.guard }], guard := some (39, false) }, { dst := some 151, op := Op.call { callee := Callee.value (Operand.func 18), args := #[Operand.tmp 150], argTypes := #[24] }, type := 4, pos := p44, after := #[{ on := 48, ground := Ground.data }, { on := 44, ground := Ground.chain }, { on := 39, ground := Ground.guard }], guard := some (39, false) }, { dst := some 152, op := Op.binOp BinOp.neq 4 (Operand.tmp 146) (Operand.tmp 151) 4, type := 4, pos := p44, after := #[{ on := 44, ground := Ground.data }, { on := 49, ground := Ground.data }, { on := 39, ground := Ground.guard }], guard := some (39, false) }, { dst := some 153, op := Op.pick (Operand.tmp 141) (Operand.const (Value.bool true)) (Operand.tmp 152), type := 4, pos := p44, after := #[{ on := 39, ground := Ground.data }, { on := 50, ground := Ground.data }], guard := none }] true).wp Try.prog Q a w := by
  refine wp_region_K (fun w' => Below w.heap.size w w') (by kernel_rfl) ?_
  have hC : Below w.heap.size w w.drew := (Below.refl _ _).drew
  have x0 : ∀ t, t ∉ ([] : List Tmp) → sl a t = sl a t := fun _ _ => rfl
  have g0 : ∀ w', Below w.heap.size w w' → w'.cell? ⟨L, i.toNat * 2, none⟩ = some (.int .i64 p) := fun w' h => (h.cell (World.block_lt_of_cell? _ _ c0)).trans c0
  have g1 : ∀ w', Below w.heap.size w w' → w'.cell? ⟨L, i.toNat * 2 + 1, none⟩ = some (.int .i64 q) := fun w' h => (h.cell (World.block_lt_of_cell? _ _ c1)).trans c1
  have g2 : ∀ w', Below w.heap.size w w' → w'.cell? ⟨L, k.toNat * 2, none⟩ = some (.int .i64 u) := fun w' h => (h.cell (World.block_lt_of_cell? _ _ c2)).trans c2
  have g3 : ∀ w', Below w.heap.size w w' → w'.cell? ⟨L, k.toNat * 2 + 1, none⟩ = some (.int .i64 v) := fun w' h => (h.cell (World.block_lt_of_cell? _ _ c3)).trans c3
  have k1a : ∀ w', Below w.heap.size w w' → w'.cell? ⟨b1, 0, none⟩ = some (.int .i64 r) := fun w' h => (h.cell (World.block_lt_of_cell? _ _ xk1a)).trans xk1a
  have k1b : ∀ w', Below w.heap.size w w' → w'.cell? ⟨b1, 0 + 1, none⟩ = some (.int .i64 s) := fun w' h => (h.cell (World.block_lt_of_cell? _ _ xk1b)).trans xk1b
  have k2a : ∀ w', Below w.heap.size w w' → w'.cell? ⟨b2, 0, none⟩ = some (.int .i64 r) := fun w' h => (h.cell (World.block_lt_of_cell? _ _ xk2a)).trans xk2a
  have k2b : ∀ w', Below w.heap.size w w' → w'.cell? ⟨b2, 0 + 1, none⟩ = some (.int .i64 s) := fun w' h => (h.cell (World.block_lt_of_cell? _ _ xk2b)).trans xk2b
  have k3a : ∀ w', Below w.heap.size w w' → w'.cell? ⟨b3, 0, none⟩ = some (.int .i64 r2) := fun w' h => (h.cell (World.block_lt_of_cell? _ _ xk3a)).trans xk3a
  have k3b : ∀ w', Below w.heap.size w w' → w'.cell? ⟨b3, 0 + 1, none⟩ = some (.int .i64 s2) := fun w' h => (h.cell (World.block_lt_of_cell? _ _ xk3b)).trans xk3b
  have k4a : ∀ w', Below w.heap.size w w' → w'.cell? ⟨b4, 0, none⟩ = some (.int .i64 r2) := fun w' h => (h.cell (World.block_lt_of_cell? _ _ xk4a)).trans xk4a
  have k4b : ∀ w', Below w.heap.size w w' → w'.cell? ⟨b4, 0 + 1, none⟩ = some (.int .i64 s2) := fun w' h => (h.cell (World.block_lt_of_cell? _ _ xk4b)).trans xk4b
  refine wpK_take 0 _ (.agg #[.int .i64 r, .int .i64 s]) (by kernel_rfl) rfl hC (Same.wants (rfl) fun w' hw' => ex_load 12 rfl e12 (k1a w' hw') (k1b w' hw')) ?_
  obtain ⟨A1, hA1⟩ : ∃ A, A = a.put (some 102) (.agg #[.int .i64 r, .int .i64 s]) := ⟨_, rfl⟩
  refine (show wpK _ _ _ _ _ _ _ (a.put (some 102) (.agg #[.int .i64 r, .int .i64 s])) _ from ?_)
  rw [← hA1]
  have z1 := size_of hA1 hsz
  have y1 := def_of hA1 (rfl : a.defers = a.defers)
  have x1 := keep hA1 x0
  have f1_9 := sl_ne hA1 (by decide) e9
  have f1_10 := sl_ne hA1 (by decide) e10
  have f1_11 := sl_ne hA1 (by decide) e11
  have f1_13 := sl_ne hA1 (by decide) e13
  have f1_14 := sl_ne hA1 (by decide) e14
  have f1_15 := sl_ne hA1 (by decide) e15
  have f1_16 := sl_ne hA1 (by decide) e16
  have f1_17 := sl_ne hA1 (by decide) e17
  have f1_18 := sl_ne hA1 (by decide) e18
  have f1_19 := sl_ne hA1 (by decide) e19
  have f1_102 := sl_same hA1 hsz (by decide)
  refine wpK_take 1 _ (.agg #[.int .i64 r, .int .i64 s]) (by kernel_rfl) rfl hC (Same.wants (rfl) fun w' hw' => ex_load 14 rfl f1_14 (k2a w' hw') (k2b w' hw')) ?_
  obtain ⟨A2, hA2⟩ : ∃ A, A = A1.put (some 103) (.agg #[.int .i64 r, .int .i64 s]) := ⟨_, rfl⟩
  refine (show wpK _ _ _ _ _ _ _ (A1.put (some 103) (.agg #[.int .i64 r, .int .i64 s])) _ from ?_)
  rw [← hA2]
  have z2 := size_of hA2 z1
  have y2 := def_of hA2 y1
  have x2 := keep hA2 x1
  have f2_9 := sl_ne hA2 (by decide) f1_9
  have f2_10 := sl_ne hA2 (by decide) f1_10
  have f2_11 := sl_ne hA2 (by decide) f1_11
  have f2_13 := sl_ne hA2 (by decide) f1_13
  have f2_15 := sl_ne hA2 (by decide) f1_15
  have f2_16 := sl_ne hA2 (by decide) f1_16
  have f2_17 := sl_ne hA2 (by decide) f1_17
  have f2_18 := sl_ne hA2 (by decide) f1_18
  have f2_19 := sl_ne hA2 (by decide) f1_19
  have f2_102 := sl_ne hA2 (by decide) f1_102
  have f2_103 := sl_same hA2 z1 (by decide)
  clear f1_9 f1_10 f1_11 f1_13 f1_14 f1_15 f1_16 f1_17 f1_18 f1_19 f1_102
  refine wpK_take 2 _ (.bool false) (by kernel_rfl) rfl hC (Same.wants (rfl) fun w' hw' => ex_neq24 102 103 rfl f2_102 f2_103) ?_
  obtain ⟨A3, hA3⟩ : ∃ A, A = A2.put (some 104) (.bool false) := ⟨_, rfl⟩
  refine (show wpK _ _ _ _ _ _ _ (A2.put (some 104) (.bool false)) _ from ?_)
  rw [← hA3]
  have z3 := size_of hA3 z2
  have y3 := def_of hA3 y2
  have x3 := keep hA3 x2
  have f3_9 := sl_ne hA3 (by decide) f2_9
  have f3_10 := sl_ne hA3 (by decide) f2_10
  have f3_11 := sl_ne hA3 (by decide) f2_11
  have f3_13 := sl_ne hA3 (by decide) f2_13
  have f3_15 := sl_ne hA3 (by decide) f2_15
  have f3_16 := sl_ne hA3 (by decide) f2_16
  have f3_17 := sl_ne hA3 (by decide) f2_17
  have f3_18 := sl_ne hA3 (by decide) f2_18
  have f3_19 := sl_ne hA3 (by decide) f2_19
  have f3_104 := sl_same hA3 z2 (by decide)
  clear f2_9 f2_10 f2_11 f2_13 f2_15 f2_16 f2_17 f2_18 f2_19 f2_102 f2_103
  refine wpK_take 3 _ (.bool false) (by kernel_rfl) rfl hC (Same.wants (rfl) fun w' hw' => ex_move 104 rfl f3_104) ?_
  obtain ⟨A4, hA4⟩ : ∃ A, A = A3.put (some 105) (.bool false) := ⟨_, rfl⟩
  refine (show wpK _ _ _ _ _ _ _ (A3.put (some 105) (.bool false)) _ from ?_)
  rw [← hA4]
  have z4 := size_of hA4 z3
  have y4 := def_of hA4 y3
  have x4 := keep hA4 x3
  have f4_9 := sl_ne hA4 (by decide) f3_9
  have f4_10 := sl_ne hA4 (by decide) f3_10
  have f4_11 := sl_ne hA4 (by decide) f3_11
  have f4_13 := sl_ne hA4 (by decide) f3_13
  have f4_15 := sl_ne hA4 (by decide) f3_15
  have f4_16 := sl_ne hA4 (by decide) f3_16
  have f4_17 := sl_ne hA4 (by decide) f3_17
  have f4_18 := sl_ne hA4 (by decide) f3_18
  have f4_19 := sl_ne hA4 (by decide) f3_19
  have f4_105 := sl_same hA4 z3 (by decide)
  clear f3_9 f3_10 f3_11 f3_13 f3_15 f3_16 f3_17 f3_18 f3_19 f3_104
  refine wpK_take 4 _ (.int .i64 e) (by kernel_rfl) rfl hC (Same.wants (want 3 105 rfl rfl f4_105) fun w' hw' => ex_move 13 rfl f4_13) ?_
  obtain ⟨A5, hA5⟩ : ∃ A, A = A4.put (some 106) (.int .i64 e) := ⟨_, rfl⟩
  refine (show wpK _ _ _ _ _ _ _ (A4.put (some 106) (.int .i64 e)) _ from ?_)
  rw [← hA5]
  have z5 := size_of hA5 z4
  have y5 := def_of hA5 y4
  have x5 := keep hA5 x4
  have f5_9 := sl_ne hA5 (by decide) f4_9
  have f5_10 := sl_ne hA5 (by decide) f4_10
  have f5_11 := sl_ne hA5 (by decide) f4_11
  have f5_15 := sl_ne hA5 (by decide) f4_15
  have f5_16 := sl_ne hA5 (by decide) f4_16
  have f5_17 := sl_ne hA5 (by decide) f4_17
  have f5_18 := sl_ne hA5 (by decide) f4_18
  have f5_19 := sl_ne hA5 (by decide) f4_19
  have f5_105 := sl_ne hA5 (by decide) f4_105
  have f5_106 := sl_same hA5 z4 (by decide)
  clear f4_9 f4_10 f4_11 f4_13 f4_15 f4_16 f4_17 f4_18 f4_19 f4_105
  refine wpK_take 5 _ (.int .i64 e) (by kernel_rfl) rfl hC (Same.wants (want 3 105 rfl rfl f5_105) fun w' hw' => ex_move 15 rfl f5_15) ?_
  obtain ⟨A6, hA6⟩ : ∃ A, A = A5.put (some 107) (.int .i64 e) := ⟨_, rfl⟩
  refine (show wpK _ _ _ _ _ _ _ (A5.put (some 107) (.int .i64 e)) _ from ?_)
  rw [← hA6]
  have z6 := size_of hA6 z5
  have y6 := def_of hA6 y5
  have x6 := keep hA6 x5
  have f6_9 := sl_ne hA6 (by decide) f5_9
  have f6_10 := sl_ne hA6 (by decide) f5_10
  have f6_11 := sl_ne hA6 (by decide) f5_11
  have f6_16 := sl_ne hA6 (by decide) f5_16
  have f6_17 := sl_ne hA6 (by decide) f5_17
  have f6_18 := sl_ne hA6 (by decide) f5_18
  have f6_19 := sl_ne hA6 (by decide) f5_19
  have f6_105 := sl_ne hA6 (by decide) f5_105
  have f6_106 := sl_ne hA6 (by decide) f5_106
  have f6_107 := sl_same hA6 z5 (by decide)
  clear f5_9 f5_10 f5_11 f5_15 f5_16 f5_17 f5_18 f5_19 f5_105 f5_106
  refine wpK_take 6 _ (.bool false) (by kernel_rfl) rfl hC (Same.wants (want 3 105 rfl rfl f6_105) fun w' hw' => ex_neq3 106 107 rfl f6_106 f6_107) ?_
  obtain ⟨A7, hA7⟩ : ∃ A, A = A6.put (some 108) (.bool false) := ⟨_, rfl⟩
  refine (show wpK _ _ _ _ _ _ _ (A6.put (some 108) (.bool false)) _ from ?_)
  rw [← hA7]
  have z7 := size_of hA7 z6
  have y7 := def_of hA7 y6
  have x7 := keep hA7 x6
  have f7_9 := sl_ne hA7 (by decide) f6_9
  have f7_10 := sl_ne hA7 (by decide) f6_10
  have f7_11 := sl_ne hA7 (by decide) f6_11
  have f7_16 := sl_ne hA7 (by decide) f6_16
  have f7_17 := sl_ne hA7 (by decide) f6_17
  have f7_18 := sl_ne hA7 (by decide) f6_18
  have f7_19 := sl_ne hA7 (by decide) f6_19
  have f7_105 := sl_ne hA7 (by decide) f6_105
  have f7_108 := sl_same hA7 z6 (by decide)
  clear f6_9 f6_10 f6_11 f6_16 f6_17 f6_18 f6_19 f6_105 f6_106 f6_107
  refine wpK_take 7 _ (.bool false) (by kernel_rfl) rfl hC (Same.wants (rfl) fun w' hw' => ex_pickF 105 108 rfl f7_105 f7_108) ?_
  obtain ⟨A8, hA8⟩ : ∃ A, A = A7.put (some 109) (.bool false) := ⟨_, rfl⟩
  refine (show wpK _ _ _ _ _ _ _ (A7.put (some 109) (.bool false)) _ from ?_)
  rw [← hA8]
  have z8 := size_of hA8 z7
  have y8 := def_of hA8 y7
  have x8 := keep hA8 x7
  have f8_9 := sl_ne hA8 (by decide) f7_9
  have f8_10 := sl_ne hA8 (by decide) f7_10
  have f8_11 := sl_ne hA8 (by decide) f7_11
  have f8_16 := sl_ne hA8 (by decide) f7_16
  have f8_17 := sl_ne hA8 (by decide) f7_17
  have f8_18 := sl_ne hA8 (by decide) f7_18
  have f8_19 := sl_ne hA8 (by decide) f7_19
  have f8_109 := sl_same hA8 z7 (by decide)
  clear f7_9 f7_10 f7_11 f7_16 f7_17 f7_18 f7_19 f7_105 f7_108
  refine wpK_take 8 _ (.bool false) (by kernel_rfl) rfl hC (Same.wants (rfl) fun w' hw' => ex_move 109 rfl f8_109) ?_
  obtain ⟨A9, hA9⟩ : ∃ A, A = A8.put (some 110) (.bool false) := ⟨_, rfl⟩
  refine (show wpK _ _ _ _ _ _ _ (A8.put (some 110) (.bool false)) _ from ?_)
  rw [← hA9]
  have z9 := size_of hA9 z8
  have y9 := def_of hA9 y8
  have x9 := keep hA9 x8
  have f9_9 := sl_ne hA9 (by decide) f8_9
  have f9_10 := sl_ne hA9 (by decide) f8_10
  have f9_11 := sl_ne hA9 (by decide) f8_11
  have f9_16 := sl_ne hA9 (by decide) f8_16
  have f9_17 := sl_ne hA9 (by decide) f8_17
  have f9_18 := sl_ne hA9 (by decide) f8_18
  have f9_19 := sl_ne hA9 (by decide) f8_19
  have f9_110 := sl_same hA9 z8 (by decide)
  clear f8_9 f8_10 f8_11 f8_16 f8_17 f8_18 f8_19 f8_109
  refine wpK_take 9 _ (.agg #[.int .i64 r2, .int .i64 s2]) (by kernel_rfl) rfl hC (Same.wants (want 8 110 rfl rfl f9_110) fun w' hw' => ex_load 16 rfl f9_16 (k3a w' hw') (k3b w' hw')) ?_
  obtain ⟨A10, hA10⟩ : ∃ A, A = A9.put (some 111) (.agg #[.int .i64 r2, .int .i64 s2]) := ⟨_, rfl⟩
  refine (show wpK _ _ _ _ _ _ _ (A9.put (some 111) (.agg #[.int .i64 r2, .int .i64 s2])) _ from ?_)
  rw [← hA10]
  have z10 := size_of hA10 z9
  have y10 := def_of hA10 y9
  have x10 := keep hA10 x9
  have f10_9 := sl_ne hA10 (by decide) f9_9
  have f10_10 := sl_ne hA10 (by decide) f9_10
  have f10_11 := sl_ne hA10 (by decide) f9_11
  have f10_17 := sl_ne hA10 (by decide) f9_17
  have f10_18 := sl_ne hA10 (by decide) f9_18
  have f10_19 := sl_ne hA10 (by decide) f9_19
  have f10_110 := sl_ne hA10 (by decide) f9_110
  have f10_111 := sl_same hA10 z9 (by decide)
  clear f9_9 f9_10 f9_11 f9_16 f9_17 f9_18 f9_19 f9_110
  refine wpK_take 10 _ (.agg #[.int .i64 r2, .int .i64 s2]) (by kernel_rfl) rfl hC (Same.wants (want 8 110 rfl rfl f10_110) fun w' hw' => ex_load 18 rfl f10_18 (k4a w' hw') (k4b w' hw')) ?_
  obtain ⟨A11, hA11⟩ : ∃ A, A = A10.put (some 112) (.agg #[.int .i64 r2, .int .i64 s2]) := ⟨_, rfl⟩
  refine (show wpK _ _ _ _ _ _ _ (A10.put (some 112) (.agg #[.int .i64 r2, .int .i64 s2])) _ from ?_)
  rw [← hA11]
  have z11 := size_of hA11 z10
  have y11 := def_of hA11 y10
  have x11 := keep hA11 x10
  have f11_9 := sl_ne hA11 (by decide) f10_9
  have f11_10 := sl_ne hA11 (by decide) f10_10
  have f11_11 := sl_ne hA11 (by decide) f10_11
  have f11_17 := sl_ne hA11 (by decide) f10_17
  have f11_19 := sl_ne hA11 (by decide) f10_19
  have f11_110 := sl_ne hA11 (by decide) f10_110
  have f11_111 := sl_ne hA11 (by decide) f10_111
  have f11_112 := sl_same hA11 z10 (by decide)
  clear f10_9 f10_10 f10_11 f10_17 f10_18 f10_19 f10_110 f10_111
  refine wpK_take 11 _ (.bool false) (by kernel_rfl) rfl hC (Same.wants (want 8 110 rfl rfl f11_110) fun w' hw' => ex_neq24 111 112 rfl f11_111 f11_112) ?_
  obtain ⟨A12, hA12⟩ : ∃ A, A = A11.put (some 113) (.bool false) := ⟨_, rfl⟩
  refine (show wpK _ _ _ _ _ _ _ (A11.put (some 113) (.bool false)) _ from ?_)
  rw [← hA12]
  have z12 := size_of hA12 z11
  have y12 := def_of hA12 y11
  have x12 := keep hA12 x11
  have f12_9 := sl_ne hA12 (by decide) f11_9
  have f12_10 := sl_ne hA12 (by decide) f11_10
  have f12_11 := sl_ne hA12 (by decide) f11_11
  have f12_17 := sl_ne hA12 (by decide) f11_17
  have f12_19 := sl_ne hA12 (by decide) f11_19
  have f12_110 := sl_ne hA12 (by decide) f11_110
  have f12_113 := sl_same hA12 z11 (by decide)
  clear f11_9 f11_10 f11_11 f11_17 f11_19 f11_110 f11_111 f11_112
  refine wpK_take 12 _ (.bool false) (by kernel_rfl) rfl hC (Same.wants (rfl) fun w' hw' => ex_pickF 110 113 rfl f12_110 f12_113) ?_
  obtain ⟨A13, hA13⟩ : ∃ A, A = A12.put (some 114) (.bool false) := ⟨_, rfl⟩
  refine (show wpK _ _ _ _ _ _ _ (A12.put (some 114) (.bool false)) _ from ?_)
  rw [← hA13]
  have z13 := size_of hA13 z12
  have y13 := def_of hA13 y12
  have x13 := keep hA13 x12
  have f13_9 := sl_ne hA13 (by decide) f12_9
  have f13_10 := sl_ne hA13 (by decide) f12_10
  have f13_11 := sl_ne hA13 (by decide) f12_11
  have f13_17 := sl_ne hA13 (by decide) f12_17
  have f13_19 := sl_ne hA13 (by decide) f12_19
  have f13_114 := sl_same hA13 z12 (by decide)
  clear f12_9 f12_10 f12_11 f12_17 f12_19 f12_110 f12_113
  refine wpK_take 13 _ (.bool false) (by kernel_rfl) rfl hC (Same.wants (rfl) fun w' hw' => ex_move 114 rfl f13_114) ?_
  obtain ⟨A14, hA14⟩ : ∃ A, A = A13.put (some 115) (.bool false) := ⟨_, rfl⟩
  refine (show wpK _ _ _ _ _ _ _ (A13.put (some 115) (.bool false)) _ from ?_)
  rw [← hA14]
  have z14 := size_of hA14 z13
  have y14 := def_of hA14 y13
  have x14 := keep hA14 x13
  have f14_9 := sl_ne hA14 (by decide) f13_9
  have f14_10 := sl_ne hA14 (by decide) f13_10
  have f14_11 := sl_ne hA14 (by decide) f13_11
  have f14_17 := sl_ne hA14 (by decide) f13_17
  have f14_19 := sl_ne hA14 (by decide) f13_19
  have f14_115 := sl_same hA14 z13 (by decide)
  clear f13_9 f13_10 f13_11 f13_17 f13_19 f13_114
  refine wpK_take 14 _ (.int .i64 e2) (by kernel_rfl) rfl hC (Same.wants (want 13 115 rfl rfl f14_115) fun w' hw' => ex_move 17 rfl f14_17) ?_
  obtain ⟨A15, hA15⟩ : ∃ A, A = A14.put (some 116) (.int .i64 e2) := ⟨_, rfl⟩
  refine (show wpK _ _ _ _ _ _ _ (A14.put (some 116) (.int .i64 e2)) _ from ?_)
  rw [← hA15]
  have z15 := size_of hA15 z14
  have y15 := def_of hA15 y14
  have x15 := keep hA15 x14
  have f15_9 := sl_ne hA15 (by decide) f14_9
  have f15_10 := sl_ne hA15 (by decide) f14_10
  have f15_11 := sl_ne hA15 (by decide) f14_11
  have f15_19 := sl_ne hA15 (by decide) f14_19
  have f15_115 := sl_ne hA15 (by decide) f14_115
  have f15_116 := sl_same hA15 z14 (by decide)
  clear f14_9 f14_10 f14_11 f14_17 f14_19 f14_115
  refine wpK_take 15 _ (.int .i64 e2) (by kernel_rfl) rfl hC (Same.wants (want 13 115 rfl rfl f15_115) fun w' hw' => ex_move 19 rfl f15_19) ?_
  obtain ⟨A16, hA16⟩ : ∃ A, A = A15.put (some 117) (.int .i64 e2) := ⟨_, rfl⟩
  refine (show wpK _ _ _ _ _ _ _ (A15.put (some 117) (.int .i64 e2)) _ from ?_)
  rw [← hA16]
  have z16 := size_of hA16 z15
  have y16 := def_of hA16 y15
  have x16 := keep hA16 x15
  have f16_9 := sl_ne hA16 (by decide) f15_9
  have f16_10 := sl_ne hA16 (by decide) f15_10
  have f16_11 := sl_ne hA16 (by decide) f15_11
  have f16_115 := sl_ne hA16 (by decide) f15_115
  have f16_116 := sl_ne hA16 (by decide) f15_116
  have f16_117 := sl_same hA16 z15 (by decide)
  clear f15_9 f15_10 f15_11 f15_19 f15_115 f15_116
  refine wpK_take 16 _ (.bool false) (by kernel_rfl) rfl hC (Same.wants (want 13 115 rfl rfl f16_115) fun w' hw' => ex_neq3 116 117 rfl f16_116 f16_117) ?_
  obtain ⟨A17, hA17⟩ : ∃ A, A = A16.put (some 118) (.bool false) := ⟨_, rfl⟩
  refine (show wpK _ _ _ _ _ _ _ (A16.put (some 118) (.bool false)) _ from ?_)
  rw [← hA17]
  have z17 := size_of hA17 z16
  have y17 := def_of hA17 y16
  have x17 := keep hA17 x16
  have f17_9 := sl_ne hA17 (by decide) f16_9
  have f17_10 := sl_ne hA17 (by decide) f16_10
  have f17_11 := sl_ne hA17 (by decide) f16_11
  have f17_115 := sl_ne hA17 (by decide) f16_115
  have f17_118 := sl_same hA17 z16 (by decide)
  clear f16_9 f16_10 f16_11 f16_115 f16_116 f16_117
  refine wpK_take 17 _ (.bool false) (by kernel_rfl) rfl hC (Same.wants (rfl) fun w' hw' => ex_pickF 115 118 rfl f17_115 f17_118) ?_
  obtain ⟨A18, hA18⟩ : ∃ A, A = A17.put (some 119) (.bool false) := ⟨_, rfl⟩
  refine (show wpK _ _ _ _ _ _ _ (A17.put (some 119) (.bool false)) _ from ?_)
  rw [← hA18]
  have z18 := size_of hA18 z17
  have y18 := def_of hA18 y17
  have x18 := keep hA18 x17
  have f18_9 := sl_ne hA18 (by decide) f17_9
  have f18_10 := sl_ne hA18 (by decide) f17_10
  have f18_11 := sl_ne hA18 (by decide) f17_11
  have f18_119 := sl_same hA18 z17 (by decide)
  clear f17_9 f17_10 f17_11 f17_115 f17_118
  refine wpK_take 18 _ (.bool false) (by kernel_rfl) rfl hC (Same.wants (rfl) fun w' hw' => ex_move 119 rfl f18_119) ?_
  obtain ⟨A19, hA19⟩ : ∃ A, A = A18.put (some 120) (.bool false) := ⟨_, rfl⟩
  refine (show wpK _ _ _ _ _ _ _ (A18.put (some 120) (.bool false)) _ from ?_)
  rw [← hA19]
  have z19 := size_of hA19 z18
  have y19 := def_of hA19 y18
  have x19 := keep hA19 x18
  have f19_9 := sl_ne hA19 (by decide) f18_9
  have f19_10 := sl_ne hA19 (by decide) f18_10
  have f19_11 := sl_ne hA19 (by decide) f18_11
  have f19_120 := sl_same hA19 z18 (by decide)
  clear f18_9 f18_10 f18_11 f18_119
  refine wpK_take 19 _ (.slice (some ⟨L, 0, none⟩) 5 5) (by kernel_rfl) rfl hC (Same.wants (want 18 120 rfl rfl f19_120) fun w' hw' => ex_move 9 rfl f19_9) ?_
  obtain ⟨A20, hA20⟩ : ∃ A, A = A19.put (some 121) (.slice (some ⟨L, 0, none⟩) 5 5) := ⟨_, rfl⟩
  refine (show wpK _ _ _ _ _ _ _ (A19.put (some 121) (.slice (some ⟨L, 0, none⟩) 5 5)) _ from ?_)
  rw [← hA20]
  have z20 := size_of hA20 z19
  have y20 := def_of hA20 y19
  have x20 := keep hA20 x19
  have f20_9 := sl_ne hA20 (by decide) f19_9
  have f20_10 := sl_ne hA20 (by decide) f19_10
  have f20_11 := sl_ne hA20 (by decide) f19_11
  have f20_120 := sl_ne hA20 (by decide) f19_120
  have f20_121 := sl_same hA20 z19 (by decide)
  clear f19_9 f19_10 f19_11 f19_120
  refine wpK_take 20 _ (.int .i64 i) (by kernel_rfl) rfl hC (Same.wants (want 18 120 rfl rfl f20_120) fun w' hw' => ex_move 10 rfl f20_10) ?_
  obtain ⟨A21, hA21⟩ : ∃ A, A = A20.put (some 122) (.int .i64 i) := ⟨_, rfl⟩
  refine (show wpK _ _ _ _ _ _ _ (A20.put (some 122) (.int .i64 i)) _ from ?_)
  rw [← hA21]
  have z21 := size_of hA21 z20
  have y21 := def_of hA21 y20
  have x21 := keep hA21 x20
  have f21_9 := sl_ne hA21 (by decide) f20_9
  have f21_10 := sl_ne hA21 (by decide) f20_10
  have f21_11 := sl_ne hA21 (by decide) f20_11
  have f21_120 := sl_ne hA21 (by decide) f20_120
  have f21_121 := sl_ne hA21 (by decide) f20_121
  have f21_122 := sl_same hA21 z20 (by decide)
  clear f20_9 f20_10 f20_11 f20_120 f20_121
  refine wpK_take 21 _ (.pointer (some ⟨L, i.toNat * 2, none⟩)) (by kernel_rfl) rfl hC (Same.wants (want 18 120 rfl rfl f21_120) fun w' hw' => ex_index 121 122 rfl f21_121 f21_122 hi) ?_
  obtain ⟨A22, hA22⟩ : ∃ A, A = A21.put (some 123) (.pointer (some ⟨L, i.toNat * 2, none⟩)) := ⟨_, rfl⟩
  refine (show wpK _ _ _ _ _ _ _ (A21.put (some 123) (.pointer (some ⟨L, i.toNat * 2, none⟩))) _ from ?_)
  rw [← hA22]
  have z22 := size_of hA22 z21
  have y22 := def_of hA22 y21
  have x22 := keep hA22 x21
  have f22_9 := sl_ne hA22 (by decide) f21_9
  have f22_10 := sl_ne hA22 (by decide) f21_10
  have f22_11 := sl_ne hA22 (by decide) f21_11
  have f22_120 := sl_ne hA22 (by decide) f21_120
  have f22_123 := sl_same hA22 z21 (by decide)
  clear f21_9 f21_10 f21_11 f21_120 f21_121 f21_122
  refine wpK_take 22 _ (.agg #[.int .i64 p, .int .i64 q]) (by kernel_rfl) rfl hC (Same.wants (want 18 120 rfl rfl f22_120) fun w' hw' => ex_load 123 rfl f22_123 (g0 w' hw') (g1 w' hw')) ?_
  obtain ⟨A23, hA23⟩ : ∃ A, A = A22.put (some 124) (.agg #[.int .i64 p, .int .i64 q]) := ⟨_, rfl⟩
  refine (show wpK _ _ _ _ _ _ _ (A22.put (some 124) (.agg #[.int .i64 p, .int .i64 q])) _ from ?_)
  rw [← hA23]
  have z23 := size_of hA23 z22
  have y23 := def_of hA23 y22
  have x23 := keep hA23 x22
  have f23_9 := sl_ne hA23 (by decide) f22_9
  have f23_10 := sl_ne hA23 (by decide) f22_10
  have f23_11 := sl_ne hA23 (by decide) f22_11
  have f23_120 := sl_ne hA23 (by decide) f22_120
  have f23_124 := sl_same hA23 z22 (by decide)
  clear f22_9 f22_10 f22_11 f22_120 f22_123
  refine wpK_take 23 _ (.slice (some ⟨L, 0, none⟩) 5 5) (by kernel_rfl) rfl hC (Same.wants (want 18 120 rfl rfl f23_120) fun w' hw' => ex_move 9 rfl f23_9) ?_
  obtain ⟨A24, hA24⟩ : ∃ A, A = A23.put (some 125) (.slice (some ⟨L, 0, none⟩) 5 5) := ⟨_, rfl⟩
  refine (show wpK _ _ _ _ _ _ _ (A23.put (some 125) (.slice (some ⟨L, 0, none⟩) 5 5)) _ from ?_)
  rw [← hA24]
  have z24 := size_of hA24 z23
  have y24 := def_of hA24 y23
  have x24 := keep hA24 x23
  have f24_9 := sl_ne hA24 (by decide) f23_9
  have f24_10 := sl_ne hA24 (by decide) f23_10
  have f24_11 := sl_ne hA24 (by decide) f23_11
  have f24_120 := sl_ne hA24 (by decide) f23_120
  have f24_124 := sl_ne hA24 (by decide) f23_124
  have f24_125 := sl_same hA24 z23 (by decide)
  clear f23_9 f23_10 f23_11 f23_120 f23_124
  refine wpK_take 24 _ (.int .i64 k) (by kernel_rfl) rfl hC (Same.wants (want 18 120 rfl rfl f24_120) fun w' hw' => ex_move 11 rfl f24_11) ?_
  obtain ⟨A25, hA25⟩ : ∃ A, A = A24.put (some 126) (.int .i64 k) := ⟨_, rfl⟩
  refine (show wpK _ _ _ _ _ _ _ (A24.put (some 126) (.int .i64 k)) _ from ?_)
  rw [← hA25]
  have z25 := size_of hA25 z24
  have y25 := def_of hA25 y24
  have x25 := keep hA25 x24
  have f25_9 := sl_ne hA25 (by decide) f24_9
  have f25_10 := sl_ne hA25 (by decide) f24_10
  have f25_11 := sl_ne hA25 (by decide) f24_11
  have f25_120 := sl_ne hA25 (by decide) f24_120
  have f25_124 := sl_ne hA25 (by decide) f24_124
  have f25_125 := sl_ne hA25 (by decide) f24_125
  have f25_126 := sl_same hA25 z24 (by decide)
  clear f24_9 f24_10 f24_11 f24_120 f24_124 f24_125
  refine wpK_take 25 _ (.pointer (some ⟨L, k.toNat * 2, none⟩)) (by kernel_rfl) rfl hC (Same.wants (want 18 120 rfl rfl f25_120) fun w' hw' => ex_index 125 126 rfl f25_125 f25_126 hk) ?_
  obtain ⟨A26, hA26⟩ : ∃ A, A = A25.put (some 127) (.pointer (some ⟨L, k.toNat * 2, none⟩)) := ⟨_, rfl⟩
  refine (show wpK _ _ _ _ _ _ _ (A25.put (some 127) (.pointer (some ⟨L, k.toNat * 2, none⟩))) _ from ?_)
  rw [← hA26]
  have z26 := size_of hA26 z25
  have y26 := def_of hA26 y25
  have x26 := keep hA26 x25
  have f26_9 := sl_ne hA26 (by decide) f25_9
  have f26_10 := sl_ne hA26 (by decide) f25_10
  have f26_11 := sl_ne hA26 (by decide) f25_11
  have f26_120 := sl_ne hA26 (by decide) f25_120
  have f26_124 := sl_ne hA26 (by decide) f25_124
  have f26_127 := sl_same hA26 z25 (by decide)
  clear f25_9 f25_10 f25_11 f25_120 f25_124 f25_125 f25_126
  refine wpK_take 26 _ (.agg #[.int .i64 u, .int .i64 v]) (by kernel_rfl) rfl hC (Same.wants (want 18 120 rfl rfl f26_120) fun w' hw' => ex_load 127 rfl f26_127 (g2 w' hw') (g3 w' hw')) ?_
  obtain ⟨A27, hA27⟩ : ∃ A, A = A26.put (some 128) (.agg #[.int .i64 u, .int .i64 v]) := ⟨_, rfl⟩
  refine (show wpK _ _ _ _ _ _ _ (A26.put (some 128) (.agg #[.int .i64 u, .int .i64 v])) _ from ?_)
  rw [← hA27]
  have z27 := size_of hA27 z26
  have y27 := def_of hA27 y26
  have x27 := keep hA27 x26
  have f27_9 := sl_ne hA27 (by decide) f26_9
  have f27_10 := sl_ne hA27 (by decide) f26_10
  have f27_11 := sl_ne hA27 (by decide) f26_11
  have f27_120 := sl_ne hA27 (by decide) f26_120
  have f27_124 := sl_ne hA27 (by decide) f26_124
  have f27_128 := sl_same hA27 z26 (by decide)
  clear f26_9 f26_10 f26_11 f26_120 f26_124 f26_127
  refine wpK_take 28 _ (.slice (some ⟨L, 0, none⟩) 5 5) (by kernel_rfl) rfl hC (Same.wants (want 18 120 rfl rfl f27_120) fun w' hw' => ex_move 9 rfl f27_9) ?_
  obtain ⟨A28, hA28⟩ : ∃ A, A = A27.put (some 130) (.slice (some ⟨L, 0, none⟩) 5 5) := ⟨_, rfl⟩
  refine (show wpK _ _ _ _ _ _ _ (A27.put (some 130) (.slice (some ⟨L, 0, none⟩) 5 5)) _ from ?_)
  rw [← hA28]
  have z28 := size_of hA28 z27
  have y28 := def_of hA28 y27
  have x28 := keep hA28 x27
  have f28_9 := sl_ne hA28 (by decide) f27_9
  have f28_10 := sl_ne hA28 (by decide) f27_10
  have f28_11 := sl_ne hA28 (by decide) f27_11
  have f28_120 := sl_ne hA28 (by decide) f27_120
  have f28_124 := sl_ne hA28 (by decide) f27_124
  have f28_128 := sl_ne hA28 (by decide) f27_128
  have f28_130 := sl_same hA28 z27 (by decide)
  clear f27_9 f27_10 f27_11 f27_120 f27_124 f27_128
  refine wpK_take 29 _ (.int .i64 i) (by kernel_rfl) rfl hC (Same.wants (want 18 120 rfl rfl f28_120) fun w' hw' => ex_move 10 rfl f28_10) ?_
  obtain ⟨A29, hA29⟩ : ∃ A, A = A28.put (some 131) (.int .i64 i) := ⟨_, rfl⟩
  refine (show wpK _ _ _ _ _ _ _ (A28.put (some 131) (.int .i64 i)) _ from ?_)
  rw [← hA29]
  have z29 := size_of hA29 z28
  have y29 := def_of hA29 y28
  have x29 := keep hA29 x28
  have f29_9 := sl_ne hA29 (by decide) f28_9
  have f29_10 := sl_ne hA29 (by decide) f28_10
  have f29_11 := sl_ne hA29 (by decide) f28_11
  have f29_120 := sl_ne hA29 (by decide) f28_120
  have f29_124 := sl_ne hA29 (by decide) f28_124
  have f29_128 := sl_ne hA29 (by decide) f28_128
  have f29_130 := sl_ne hA29 (by decide) f28_130
  have f29_131 := sl_same hA29 z28 (by decide)
  clear f28_9 f28_10 f28_11 f28_120 f28_124 f28_128 f28_130
  refine wpK_take 30 _ (.pointer (some ⟨L, i.toNat * 2, none⟩)) (by kernel_rfl) rfl hC (Same.wants (want 18 120 rfl rfl f29_120) fun w' hw' => ex_index 130 131 rfl f29_130 f29_131 hi) ?_
  obtain ⟨A30, hA30⟩ : ∃ A, A = A29.put (some 132) (.pointer (some ⟨L, i.toNat * 2, none⟩)) := ⟨_, rfl⟩
  refine (show wpK _ _ _ _ _ _ _ (A29.put (some 132) (.pointer (some ⟨L, i.toNat * 2, none⟩))) _ from ?_)
  rw [← hA30]
  have z30 := size_of hA30 z29
  have y30 := def_of hA30 y29
  have x30 := keep hA30 x29
  have f30_9 := sl_ne hA30 (by decide) f29_9
  have f30_10 := sl_ne hA30 (by decide) f29_10
  have f30_11 := sl_ne hA30 (by decide) f29_11
  have f30_120 := sl_ne hA30 (by decide) f29_120
  have f30_124 := sl_ne hA30 (by decide) f29_124
  have f30_128 := sl_ne hA30 (by decide) f29_128
  have f30_132 := sl_same hA30 z29 (by decide)
  clear f29_9 f29_10 f29_11 f29_120 f29_124 f29_128 f29_130 f29_131
  refine wpK_take 31 _ (.agg #[.int .i64 p, .int .i64 q]) (by kernel_rfl) rfl hC (Same.wants (want 18 120 rfl rfl f30_120) fun w' hw' => ex_load 132 rfl f30_132 (g0 w' hw') (g1 w' hw')) ?_
  obtain ⟨A31, hA31⟩ : ∃ A, A = A30.put (some 133) (.agg #[.int .i64 p, .int .i64 q]) := ⟨_, rfl⟩
  refine (show wpK _ _ _ _ _ _ _ (A30.put (some 133) (.agg #[.int .i64 p, .int .i64 q])) _ from ?_)
  rw [← hA31]
  have z31 := size_of hA31 z30
  have y31 := def_of hA31 y30
  have x31 := keep hA31 x30
  have f31_9 := sl_ne hA31 (by decide) f30_9
  have f31_10 := sl_ne hA31 (by decide) f30_10
  have f31_11 := sl_ne hA31 (by decide) f30_11
  have f31_120 := sl_ne hA31 (by decide) f30_120
  have f31_124 := sl_ne hA31 (by decide) f30_124
  have f31_128 := sl_ne hA31 (by decide) f30_128
  have f31_133 := sl_same hA31 z30 (by decide)
  clear f30_9 f30_10 f30_11 f30_120 f30_124 f30_128 f30_132
  refine wpK_take 32 _ (.slice (some ⟨L, 0, none⟩) 5 5) (by kernel_rfl) rfl hC (Same.wants (want 18 120 rfl rfl f31_120) fun w' hw' => ex_move 9 rfl f31_9) ?_
  obtain ⟨A32, hA32⟩ : ∃ A, A = A31.put (some 134) (.slice (some ⟨L, 0, none⟩) 5 5) := ⟨_, rfl⟩
  refine (show wpK _ _ _ _ _ _ _ (A31.put (some 134) (.slice (some ⟨L, 0, none⟩) 5 5)) _ from ?_)
  rw [← hA32]
  have z32 := size_of hA32 z31
  have y32 := def_of hA32 y31
  have x32 := keep hA32 x31
  have f32_9 := sl_ne hA32 (by decide) f31_9
  have f32_10 := sl_ne hA32 (by decide) f31_10
  have f32_11 := sl_ne hA32 (by decide) f31_11
  have f32_120 := sl_ne hA32 (by decide) f31_120
  have f32_124 := sl_ne hA32 (by decide) f31_124
  have f32_128 := sl_ne hA32 (by decide) f31_128
  have f32_133 := sl_ne hA32 (by decide) f31_133
  have f32_134 := sl_same hA32 z31 (by decide)
  clear f31_9 f31_10 f31_11 f31_120 f31_124 f31_128 f31_133
  refine wpK_take 33 _ (.int .i64 k) (by kernel_rfl) rfl hC (Same.wants (want 18 120 rfl rfl f32_120) fun w' hw' => ex_move 11 rfl f32_11) ?_
  obtain ⟨A33, hA33⟩ : ∃ A, A = A32.put (some 135) (.int .i64 k) := ⟨_, rfl⟩
  refine (show wpK _ _ _ _ _ _ _ (A32.put (some 135) (.int .i64 k)) _ from ?_)
  rw [← hA33]
  have z33 := size_of hA33 z32
  have y33 := def_of hA33 y32
  have x33 := keep hA33 x32
  have f33_9 := sl_ne hA33 (by decide) f32_9
  have f33_10 := sl_ne hA33 (by decide) f32_10
  have f33_120 := sl_ne hA33 (by decide) f32_120
  have f33_124 := sl_ne hA33 (by decide) f32_124
  have f33_128 := sl_ne hA33 (by decide) f32_128
  have f33_133 := sl_ne hA33 (by decide) f32_133
  have f33_134 := sl_ne hA33 (by decide) f32_134
  have f33_135 := sl_same hA33 z32 (by decide)
  clear f32_9 f32_10 f32_11 f32_120 f32_124 f32_128 f32_133 f32_134
  refine wpK_take 34 _ (.pointer (some ⟨L, k.toNat * 2, none⟩)) (by kernel_rfl) rfl hC (Same.wants (want 18 120 rfl rfl f33_120) fun w' hw' => ex_index 134 135 rfl f33_134 f33_135 hk) ?_
  obtain ⟨A34, hA34⟩ : ∃ A, A = A33.put (some 136) (.pointer (some ⟨L, k.toNat * 2, none⟩)) := ⟨_, rfl⟩
  refine (show wpK _ _ _ _ _ _ _ (A33.put (some 136) (.pointer (some ⟨L, k.toNat * 2, none⟩))) _ from ?_)
  rw [← hA34]
  have z34 := size_of hA34 z33
  have y34 := def_of hA34 y33
  have x34 := keep hA34 x33
  have f34_9 := sl_ne hA34 (by decide) f33_9
  have f34_10 := sl_ne hA34 (by decide) f33_10
  have f34_120 := sl_ne hA34 (by decide) f33_120
  have f34_124 := sl_ne hA34 (by decide) f33_124
  have f34_128 := sl_ne hA34 (by decide) f33_128
  have f34_133 := sl_ne hA34 (by decide) f33_133
  have f34_136 := sl_same hA34 z33 (by decide)
  clear f33_9 f33_10 f33_120 f33_124 f33_128 f33_133 f33_134 f33_135
  refine wpK_take 35 _ (.agg #[.int .i64 u, .int .i64 v]) (by kernel_rfl) rfl hC (Same.wants (want 18 120 rfl rfl f34_120) fun w' hw' => ex_load 136 rfl f34_136 (g2 w' hw') (g3 w' hw')) ?_
  obtain ⟨A35, hA35⟩ : ∃ A, A = A34.put (some 137) (.agg #[.int .i64 u, .int .i64 v]) := ⟨_, rfl⟩
  refine (show wpK _ _ _ _ _ _ _ (A34.put (some 137) (.agg #[.int .i64 u, .int .i64 v])) _ from ?_)
  rw [← hA35]
  have z35 := size_of hA35 z34
  have y35 := def_of hA35 y34
  have x35 := keep hA35 x34
  have f35_9 := sl_ne hA35 (by decide) f34_9
  have f35_10 := sl_ne hA35 (by decide) f34_10
  have f35_120 := sl_ne hA35 (by decide) f34_120
  have f35_124 := sl_ne hA35 (by decide) f34_124
  have f35_128 := sl_ne hA35 (by decide) f34_128
  have f35_133 := sl_ne hA35 (by decide) f34_133
  have f35_137 := sl_same hA35 z34 (by decide)
  clear f34_9 f34_10 f34_120 f34_124 f34_128 f34_133 f34_136
  refine wpK_one 27 _ (by kernel_rfl) rfl (want 18 120 rfl rfl f35_120) (ok_call2 15 124 128 rfl f35_124 f35_128 cf15 ((b15 f1 p q u v hf1 _).mono ?_))
  rintro en w1 ⟨rfl, hb1⟩
  refine ⟨_, rfl, ?_⟩
  have hC1 : Below w.heap.size w w1 := hC.trans (hb1.mono hC.size)
  refine ⟨hC1, ?_⟩
  obtain ⟨A36, hA36⟩ : ∃ A, A = A35.put (some 129) (.bool f1) := ⟨_, rfl⟩
  refine (show wpK _ _ _ _ _ _ _ (A35.put (some 129) (.bool f1)) _ from ?_)
  rw [← hA36]
  have z36 := size_of hA36 z35
  have y36 := def_of hA36 y35
  have x36 := keep hA36 x35
  have f36_9 := sl_ne hA36 (by decide) f35_9
  have f36_10 := sl_ne hA36 (by decide) f35_10
  have f36_120 := sl_ne hA36 (by decide) f35_120
  have f36_133 := sl_ne hA36 (by decide) f35_133
  have f36_137 := sl_ne hA36 (by decide) f35_137
  have f36_129 := sl_same hA36 z35 (by decide)
  clear f35_9 f35_10 f35_120 f35_124 f35_128 f35_133 f35_137
  refine wpK_one 36 _ (by kernel_rfl) rfl (want 18 120 rfl rfl f36_120) (ok_call2 16 133 137 rfl f36_133 f36_137 cf16 ((b16 f1 p q u v hf1 _).mono ?_))
  rintro en w2 ⟨rfl, hb2⟩
  refine ⟨_, rfl, ?_⟩
  have hC2 : Below w.heap.size w w2 := hC1.trans (hb2.mono hC1.size)
  refine ⟨hC2, ?_⟩
  obtain ⟨A37, hA37⟩ : ∃ A, A = A36.put (some 138) (.bool f1) := ⟨_, rfl⟩
  refine (show wpK _ _ _ _ _ _ _ (A36.put (some 138) (.bool f1)) _ from ?_)
  rw [← hA37]
  have z37 := size_of hA37 z36
  have y37 := def_of hA37 y36
  have x37 := keep hA37 x36
  have f37_9 := sl_ne hA37 (by decide) f36_9
  have f37_10 := sl_ne hA37 (by decide) f36_10
  have f37_120 := sl_ne hA37 (by decide) f36_120
  have f37_129 := sl_ne hA37 (by decide) f36_129
  have f37_138 := sl_same hA37 z36 (by decide)
  clear f36_9 f36_10 f36_120 f36_133 f36_137 f36_129
  refine wpK_take 37 _ (.bool false) (by kernel_rfl) rfl hC2 (Same.wants (want 18 120 rfl rfl f37_120) fun w' hw' => ex_neq4 129 138 rfl f37_129 f37_138) ?_
  obtain ⟨A38, hA38⟩ : ∃ A, A = A37.put (some 139) (.bool false) := ⟨_, rfl⟩
  refine (show wpK _ _ _ _ _ _ _ (A37.put (some 139) (.bool false)) _ from ?_)
  rw [← hA38]
  have z38 := size_of hA38 z37
  have y38 := def_of hA38 y37
  have x38 := keep hA38 x37
  have f38_9 := sl_ne hA38 (by decide) f37_9
  have f38_10 := sl_ne hA38 (by decide) f37_10
  have f38_120 := sl_ne hA38 (by decide) f37_120
  have f38_139 := sl_same hA38 z37 (by decide)
  clear f37_9 f37_10 f37_120 f37_129 f37_138
  refine wpK_take 38 _ (.bool false) (by kernel_rfl) rfl hC2 (Same.wants (rfl) fun w' hw' => ex_pickF 120 139 rfl f38_120 f38_139) ?_
  obtain ⟨A39, hA39⟩ : ∃ A, A = A38.put (some 140) (.bool false) := ⟨_, rfl⟩
  refine (show wpK _ _ _ _ _ _ _ (A38.put (some 140) (.bool false)) _ from ?_)
  rw [← hA39]
  have z39 := size_of hA39 z38
  have y39 := def_of hA39 y38
  have x39 := keep hA39 x38
  have f39_9 := sl_ne hA39 (by decide) f38_9
  have f39_10 := sl_ne hA39 (by decide) f38_10
  have f39_140 := sl_same hA39 z38 (by decide)
  clear f38_9 f38_10 f38_120 f38_139
  refine wpK_take 39 _ (.bool false) (by kernel_rfl) rfl hC2 (Same.wants (rfl) fun w' hw' => ex_move 140 rfl f39_140) ?_
  obtain ⟨A40, hA40⟩ : ∃ A, A = A39.put (some 141) (.bool false) := ⟨_, rfl⟩
  refine (show wpK _ _ _ _ _ _ _ (A39.put (some 141) (.bool false)) _ from ?_)
  rw [← hA40]
  have z40 := size_of hA40 z39
  have y40 := def_of hA40 y39
  have x40 := keep hA40 x39
  have f40_9 := sl_ne hA40 (by decide) f39_9
  have f40_10 := sl_ne hA40 (by decide) f39_10
  have f40_141 := sl_same hA40 z39 (by decide)
  clear f39_9 f39_10 f39_140
  refine wpK_take 40 _ (.slice (some ⟨L, 0, none⟩) 5 5) (by kernel_rfl) rfl hC2 (Same.wants (want 39 141 rfl rfl f40_141) fun w' hw' => ex_move 9 rfl f40_9) ?_
  obtain ⟨A41, hA41⟩ : ∃ A, A = A40.put (some 142) (.slice (some ⟨L, 0, none⟩) 5 5) := ⟨_, rfl⟩
  refine (show wpK _ _ _ _ _ _ _ (A40.put (some 142) (.slice (some ⟨L, 0, none⟩) 5 5)) _ from ?_)
  rw [← hA41]
  have z41 := size_of hA41 z40
  have y41 := def_of hA41 y40
  have x41 := keep hA41 x40
  have f41_9 := sl_ne hA41 (by decide) f40_9
  have f41_10 := sl_ne hA41 (by decide) f40_10
  have f41_141 := sl_ne hA41 (by decide) f40_141
  have f41_142 := sl_same hA41 z40 (by decide)
  clear f40_9 f40_10 f40_141
  refine wpK_take 41 _ (.int .i64 i) (by kernel_rfl) rfl hC2 (Same.wants (want 39 141 rfl rfl f41_141) fun w' hw' => ex_move 10 rfl f41_10) ?_
  obtain ⟨A42, hA42⟩ : ∃ A, A = A41.put (some 143) (.int .i64 i) := ⟨_, rfl⟩
  refine (show wpK _ _ _ _ _ _ _ (A41.put (some 143) (.int .i64 i)) _ from ?_)
  rw [← hA42]
  have z42 := size_of hA42 z41
  have y42 := def_of hA42 y41
  have x42 := keep hA42 x41
  have f42_9 := sl_ne hA42 (by decide) f41_9
  have f42_10 := sl_ne hA42 (by decide) f41_10
  have f42_141 := sl_ne hA42 (by decide) f41_141
  have f42_142 := sl_ne hA42 (by decide) f41_142
  have f42_143 := sl_same hA42 z41 (by decide)
  clear f41_9 f41_10 f41_141 f41_142
  refine wpK_take 42 _ (.pointer (some ⟨L, i.toNat * 2, none⟩)) (by kernel_rfl) rfl hC2 (Same.wants (want 39 141 rfl rfl f42_141) fun w' hw' => ex_index 142 143 rfl f42_142 f42_143 hi) ?_
  obtain ⟨A43, hA43⟩ : ∃ A, A = A42.put (some 144) (.pointer (some ⟨L, i.toNat * 2, none⟩)) := ⟨_, rfl⟩
  refine (show wpK _ _ _ _ _ _ _ (A42.put (some 144) (.pointer (some ⟨L, i.toNat * 2, none⟩))) _ from ?_)
  rw [← hA43]
  have z43 := size_of hA43 z42
  have y43 := def_of hA43 y42
  have x43 := keep hA43 x42
  have f43_9 := sl_ne hA43 (by decide) f42_9
  have f43_10 := sl_ne hA43 (by decide) f42_10
  have f43_141 := sl_ne hA43 (by decide) f42_141
  have f43_144 := sl_same hA43 z42 (by decide)
  clear f42_9 f42_10 f42_141 f42_142 f42_143
  refine wpK_take 43 _ (.agg #[.int .i64 p, .int .i64 q]) (by kernel_rfl) rfl hC2 (Same.wants (want 39 141 rfl rfl f43_141) fun w' hw' => ex_load 144 rfl f43_144 (g0 w' hw') (g1 w' hw')) ?_
  obtain ⟨A44, hA44⟩ : ∃ A, A = A43.put (some 145) (.agg #[.int .i64 p, .int .i64 q]) := ⟨_, rfl⟩
  refine (show wpK _ _ _ _ _ _ _ (A43.put (some 145) (.agg #[.int .i64 p, .int .i64 q])) _ from ?_)
  rw [← hA44]
  have z44 := size_of hA44 z43
  have y44 := def_of hA44 y43
  have x44 := keep hA44 x43
  have f44_9 := sl_ne hA44 (by decide) f43_9
  have f44_10 := sl_ne hA44 (by decide) f43_10
  have f44_141 := sl_ne hA44 (by decide) f43_141
  have f44_145 := sl_same hA44 z43 (by decide)
  clear f43_9 f43_10 f43_141 f43_144
  refine wpK_take 45 _ (.slice (some ⟨L, 0, none⟩) 5 5) (by kernel_rfl) rfl hC2 (Same.wants (want 39 141 rfl rfl f44_141) fun w' hw' => ex_move 9 rfl f44_9) ?_
  obtain ⟨A45, hA45⟩ : ∃ A, A = A44.put (some 147) (.slice (some ⟨L, 0, none⟩) 5 5) := ⟨_, rfl⟩
  refine (show wpK _ _ _ _ _ _ _ (A44.put (some 147) (.slice (some ⟨L, 0, none⟩) 5 5)) _ from ?_)
  rw [← hA45]
  have z45 := size_of hA45 z44
  have y45 := def_of hA45 y44
  have x45 := keep hA45 x44
  have f45_10 := sl_ne hA45 (by decide) f44_10
  have f45_141 := sl_ne hA45 (by decide) f44_141
  have f45_145 := sl_ne hA45 (by decide) f44_145
  have f45_147 := sl_same hA45 z44 (by decide)
  clear f44_9 f44_10 f44_141 f44_145
  refine wpK_take 46 _ (.int .i64 i) (by kernel_rfl) rfl hC2 (Same.wants (want 39 141 rfl rfl f45_141) fun w' hw' => ex_move 10 rfl f45_10) ?_
  obtain ⟨A46, hA46⟩ : ∃ A, A = A45.put (some 148) (.int .i64 i) := ⟨_, rfl⟩
  refine (show wpK _ _ _ _ _ _ _ (A45.put (some 148) (.int .i64 i)) _ from ?_)
  rw [← hA46]
  have z46 := size_of hA46 z45
  have y46 := def_of hA46 y45
  have x46 := keep hA46 x45
  have f46_141 := sl_ne hA46 (by decide) f45_141
  have f46_145 := sl_ne hA46 (by decide) f45_145
  have f46_147 := sl_ne hA46 (by decide) f45_147
  have f46_148 := sl_same hA46 z45 (by decide)
  clear f45_10 f45_141 f45_145 f45_147
  refine wpK_take 47 _ (.pointer (some ⟨L, i.toNat * 2, none⟩)) (by kernel_rfl) rfl hC2 (Same.wants (want 39 141 rfl rfl f46_141) fun w' hw' => ex_index 147 148 rfl f46_147 f46_148 hi) ?_
  obtain ⟨A47, hA47⟩ : ∃ A, A = A46.put (some 149) (.pointer (some ⟨L, i.toNat * 2, none⟩)) := ⟨_, rfl⟩
  refine (show wpK _ _ _ _ _ _ _ (A46.put (some 149) (.pointer (some ⟨L, i.toNat * 2, none⟩))) _ from ?_)
  rw [← hA47]
  have z47 := size_of hA47 z46
  have y47 := def_of hA47 y46
  have x47 := keep hA47 x46
  have f47_141 := sl_ne hA47 (by decide) f46_141
  have f47_145 := sl_ne hA47 (by decide) f46_145
  have f47_149 := sl_same hA47 z46 (by decide)
  clear f46_141 f46_145 f46_147 f46_148
  refine wpK_take 48 _ (.agg #[.int .i64 p, .int .i64 q]) (by kernel_rfl) rfl hC2 (Same.wants (want 39 141 rfl rfl f47_141) fun w' hw' => ex_load 149 rfl f47_149 (g0 w' hw') (g1 w' hw')) ?_
  obtain ⟨A48, hA48⟩ : ∃ A, A = A47.put (some 150) (.agg #[.int .i64 p, .int .i64 q]) := ⟨_, rfl⟩
  refine (show wpK _ _ _ _ _ _ _ (A47.put (some 150) (.agg #[.int .i64 p, .int .i64 q])) _ from ?_)
  rw [← hA48]
  have z48 := size_of hA48 z47
  have y48 := def_of hA48 y47
  have x48 := keep hA48 x47
  have f48_141 := sl_ne hA48 (by decide) f47_141
  have f48_145 := sl_ne hA48 (by decide) f47_145
  have f48_150 := sl_same hA48 z47 (by decide)
  clear f47_141 f47_145 f47_149
  refine wpK_one 44 _ (by kernel_rfl) rfl (want 39 141 rfl rfl f48_141) (ok_call1 17 145 rfl f48_145 cf17 ((b17 f2 p q hf2 _).mono ?_))
  rintro en w3 ⟨rfl, hb3⟩
  refine ⟨_, rfl, ?_⟩
  have hC3 : Below w.heap.size w w3 := hC2.trans (hb3.mono hC2.size)
  refine ⟨hC3, ?_⟩
  obtain ⟨A49, hA49⟩ : ∃ A, A = A48.put (some 146) (.bool f2) := ⟨_, rfl⟩
  refine (show wpK _ _ _ _ _ _ _ (A48.put (some 146) (.bool f2)) _ from ?_)
  rw [← hA49]
  have z49 := size_of hA49 z48
  have y49 := def_of hA49 y48
  have x49 := keep hA49 x48
  have f49_141 := sl_ne hA49 (by decide) f48_141
  have f49_150 := sl_ne hA49 (by decide) f48_150
  have f49_146 := sl_same hA49 z48 (by decide)
  clear f48_141 f48_145 f48_150
  refine wpK_one 49 _ (by kernel_rfl) rfl (want 39 141 rfl rfl f49_141) (ok_call1 18 150 rfl f49_150 cf18 ((b18 f2 p q hf2 _).mono ?_))
  rintro en w4 ⟨rfl, hb4⟩
  refine ⟨_, rfl, ?_⟩
  have hC4 : Below w.heap.size w w4 := hC3.trans (hb4.mono hC3.size)
  refine ⟨hC4, ?_⟩
  obtain ⟨A50, hA50⟩ : ∃ A, A = A49.put (some 151) (.bool f2) := ⟨_, rfl⟩
  refine (show wpK _ _ _ _ _ _ _ (A49.put (some 151) (.bool f2)) _ from ?_)
  rw [← hA50]
  have z50 := size_of hA50 z49
  have y50 := def_of hA50 y49
  have x50 := keep hA50 x49
  have f50_141 := sl_ne hA50 (by decide) f49_141
  have f50_146 := sl_ne hA50 (by decide) f49_146
  have f50_151 := sl_same hA50 z49 (by decide)
  clear f49_141 f49_150 f49_146
  refine wpK_take 50 _ (.bool false) (by kernel_rfl) rfl hC4 (Same.wants (want 39 141 rfl rfl f50_141) fun w' hw' => ex_neq4 146 151 rfl f50_146 f50_151) ?_
  obtain ⟨A51, hA51⟩ : ∃ A, A = A50.put (some 152) (.bool false) := ⟨_, rfl⟩
  refine (show wpK _ _ _ _ _ _ _ (A50.put (some 152) (.bool false)) _ from ?_)
  rw [← hA51]
  have z51 := size_of hA51 z50
  have y51 := def_of hA51 y50
  have x51 := keep hA51 x50
  have f51_141 := sl_ne hA51 (by decide) f50_141
  have f51_152 := sl_same hA51 z50 (by decide)
  clear f50_141 f50_146 f50_151
  refine wpK_take 51 _ (.bool false) (by kernel_rfl) rfl hC4 (Same.wants (rfl) fun w' hw' => ex_pickF 141 152 rfl f51_141 f51_152) ?_
  obtain ⟨A52, hA52⟩ : ∃ A, A = A51.put (some 153) (.bool false) := ⟨_, rfl⟩
  refine (show wpK _ _ _ _ _ _ _ (A51.put (some 153) (.bool false)) _ from ?_)
  rw [← hA52]
  have z52 := size_of hA52 z51
  have y52 := def_of hA52 y51
  have x52 := keep hA52 x51
  have f52_153 := sl_same hA52 z51 (by decide)
  clear f51_141 f51_152
  refine wpK_end (by kernel_rfl) ?_
  exact hQ _ _ z52 y52 x52 f52_153 hC4

end Go.Proofs.Ytpeficmlgiilcaa
