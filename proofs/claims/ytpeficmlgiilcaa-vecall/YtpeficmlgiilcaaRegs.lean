/- The four regions of VecAll's round that read two elements, call a function and keep what it answers: in whatever order. -/
import Derived.Test.YtpeficmlgiilcaaOps
namespace Go.Proofs.Ytpeficmlgiilcaa
open Go.RowKit
variable {p40 p41 p42 p43 : String}

theorem two_cells1 {w : World} {b : Nat} {x y : Value} (h1 : (w.cell? ⟨b, 1, none⟩).isSome = true) : ((w.setCell ⟨b, 0, none⟩ x).setCell ⟨b, 1, none⟩ y).cell? ⟨b, 1, none⟩ = some y := by
  simp [go_sem, h1]
theorem two_cells0 {w : World} {b : Nat} {x y : Value} (h0 : (w.cell? ⟨b, 0, none⟩).isSome = true) (_h1 : (w.cell? ⟨b, 1, none⟩).isSome = true) : ((w.setCell ⟨b, 0, none⟩ x).setCell ⟨b, 1, none⟩ y).cell? ⟨b, 0, none⟩ = some x := by
  simp [go_sem, h0]

set_option maxHeartbeats 1600000 in
theorem reg10 {Q : Exit → Act → World → Prop} (a : Act) (w : World) (L : Nat) (i k p q u v r s e : Int) (hsz : a.tmps.size = 154)
    (e9 : sl a 9 = .slice (some ⟨L, 0, none⟩) 5 5) (e10 : sl a 10 = .int .i64 i) (e11 : sl a 11 = .int .i64 k) (hi : 0 ≤ i ∧ i < 5) (hk : 0 ≤ k ∧ k < 5)
    (c0 : w.cell? ⟨L, i.toNat * 2, none⟩ = some (.int .i64 p)) (c1 : w.cell? ⟨L, i.toNat * 2 + 1, none⟩ = some (.int .i64 q))
    (c2 : w.cell? ⟨L, k.toNat * 2, none⟩ = some (.int .i64 u)) (c3 : w.cell? ⟨L, k.toNat * 2 + 1, none⟩ = some (.int .i64 v))
    (hc : ∀ w, Calls Try.prog 11 #[.agg #[.int .i64 p, .int .i64 q], .agg #[.int .i64 u, .int .i64 v]] w fun en w' => en = .returned (.tuple #[.agg #[.int .i64 r, .int .i64 s], .int .i64 e]) ∧ Below w.heap.size w w')
    (hQ : ∀ A b w', A.tmps.size = 154 → A.defers = a.defers → (∀ t, t ∉ ([13, 12, 65, 64, 54, 63, 62, 61, 60, 59, 58, 57, 56, 55] : List Tmp) → sl A t = sl a t) → sl A 12 = .pointer (some ⟨b, 0, none⟩) → sl A 13 = .int .i64 e →
      Below w.heap.size w w' → w'.cell? ⟨b, 0, none⟩ = some (.int .i64 r) → w'.cell? ⟨b, 1, none⟩ = some (.int .i64 s) → Q .normal A w') :
    (Code.region 10 #[{ dst := some 55, op := Op.move (Operand.tmp 9), type := 26, pos := p40, after := #[], guard := none }, { dst := some 56, op := Op.move (Operand.tmp 10), type := 3, pos := p40, after := #[], guard := none }, { dst := some 57, op := Op.indexAddr 26 (Operand.tmp 55) (Operand.tmp 56), type := 0, pos := p40, after := #[{ on := 0, ground := Ground.data }, { on := 1, ground := Ground.data }], guard := none }, { dst := some 58, op := Op.load 24 (Operand.tmp 57), type := 24, pos := p40, after := #[{ on := 2, ground := Ground.data }], guard := none }, { dst := some 59, op := Op.move (Operand.tmp 9), type := 26, pos := p40, after := #[], guard := none }, { dst := some 60, op := Op.move (Operand.tmp 11), type := 3, pos := p40, after := #[], guard := none }, { dst := some 61, op := Op.indexAddr 26 (Operand.tmp 59) (Operand.tmp 60), type := 0, pos := p40, after := #[{ on := 4, ground := Ground.data }, { on := 5, ground := Ground.data }], guard := none }, { dst := some 62, op := Op.load 24 (Operand.tmp 61), type := 24, pos := p40, after := #[{ on := 6, ground := Ground.data }], guard := none }, { dst := some 63, op := Op.call { callee := Callee.value (Operand.func 11), args := #[Operand.tmp 58, Operand.tmp 62], argTypes := #[24, 24] }, type := 28, pos := p40, after := #[{ on := 3, ground := Ground.data }, { on := 7, ground := Ground.data }], guard := none }, { dst := some 54, op := Op.move (Operand.tmp 63), type := 28, pos := p40, after := #[{ on := 8, ground := Ground.data }], guard := none }, { dst := some 64, op := Op.extract (Operand.tmp 54) 0, type := 24, pos := p40, after := #[{ on := 9, ground := Ground.data }], guard := none }, { dst := some 65, op := Op.extract (Operand.tmp 54) 1, type := 27, pos := p40, after := #[{ on := 9, ground := Ground.data }, { on := 13, ground := Ground.gcOnly Departure.lateStores }], guard := none }, { dst := some 12, op := Op.alloc 24, type := 0, pos := p40, after := #[], guard := none }, { dst := none, op := Op.store 24 (Operand.tmp 12) (Operand.tmp 64), type := 0, pos := p40, after := #[{ on := 12, ground := Ground.data }, { on := 10, ground := Ground.data }, { on := 8, ground := Ground.chain }, { on := 0, ground := Ground.phase }, { on := 1, ground := Ground.phase }, { on := 2, ground := Ground.phase }, { on := 3, ground := Ground.phase }, { on := 4, ground := Ground.phase }, { on := 5, ground := Ground.phase }, { on := 6, ground := Ground.phase }, { on := 7, ground := Ground.phase }, { on := 8, ground := Ground.phase }, { on := 9, ground := Ground.phase }, { on := 10, ground := Ground.phase }, { on := 11, ground := Ground.textOnly Departure.lateStores }, { on := 12, ground := Ground.phase }], guard := none }, { dst := some 13, op := Op.assign (Operand.tmp 65), type := 27, pos := p40, after := #[{ on := 11, ground := Ground.data }, { on := 13, ground := Ground.chain }, { on := 0, ground := Ground.phase }, { on := 1, ground := Ground.phase }, { on := 2, ground := Ground.phase }, { on := 3, ground := Ground.phase }, { on := 4, ground := Ground.phase }, { on := 5, ground := Ground.phase }, { on := 6, ground := Ground.phase }, { on := 7, ground := Ground.phase }, { on := 8, ground := Ground.phase }, { on := 9, ground := Ground.phase }, { on := 10, ground := Ground.phase }, { on := 11, ground := Ground.phase }, { on := 12, ground := Ground.phase }, { on := 13, ground := Ground.phase }], guard := none }] true).wp Try.prog Q a w := by
  refine wp_region_K (fun w' => Below w.heap.size w w') (by kernel_rfl) ?_
  have hC : Below w.heap.size w w.drew := (Below.refl _ _).drew
  have x0 : ∀ t, t ∉ ([] : List Tmp) → sl a t = sl a t := fun _ _ => rfl
  have L1 : L < w.heap.size := World.block_lt_of_cell? _ _ c0
  have g0 : ∀ w', Below w.heap.size w w' → w'.cell? ⟨L, i.toNat * 2, none⟩ = some (.int .i64 p) := fun w' h => (h.cell L1).trans c0
  have g1 : ∀ w', Below w.heap.size w w' → w'.cell? ⟨L, i.toNat * 2 + 1, none⟩ = some (.int .i64 q) := fun w' h => (h.cell L1).trans c1
  have g2 : ∀ w', Below w.heap.size w w' → w'.cell? ⟨L, k.toNat * 2, none⟩ = some (.int .i64 u) := fun w' h => (h.cell L1).trans c2
  have g3 : ∀ w', Below w.heap.size w w' → w'.cell? ⟨L, k.toNat * 2 + 1, none⟩ = some (.int .i64 v) := fun w' h => (h.cell L1).trans c3
  refine wpK_take 0 _ (.slice (some ⟨L, 0, none⟩) 5 5) (by kernel_rfl) rfl hC (Same.wants rfl fun w' hw' => ex_move 9 rfl e9) ?_
  obtain ⟨A1, hA1⟩ : ∃ A, A = a.put (some 55) (.slice (some ⟨L, 0, none⟩) 5 5) := ⟨_, rfl⟩
  refine (show wpK _ _ _ _ _ _ _ (a.put (some 55) (.slice (some ⟨L, 0, none⟩) 5 5)) _ from ?_)
  rw [← hA1]
  have z1 := size_of hA1 hsz
  have y1 := def_of hA1 (rfl : a.defers = a.defers)
  have x1 := keep hA1 x0
  have f1_9 := sl_ne hA1 (by decide) e9
  have f1_10 := sl_ne hA1 (by decide) e10
  have f1_11 := sl_ne hA1 (by decide) e11
  have f1_55 := sl_same hA1 hsz (by decide)
  refine wpK_take 1 _ (.int .i64 i) (by kernel_rfl) rfl hC (Same.wants rfl fun w' hw' => ex_move 10 rfl f1_10) ?_
  obtain ⟨A2, hA2⟩ : ∃ A, A = A1.put (some 56) (.int .i64 i) := ⟨_, rfl⟩
  refine (show wpK _ _ _ _ _ _ _ (A1.put (some 56) (.int .i64 i)) _ from ?_)
  rw [← hA2]
  have z2 := size_of hA2 z1
  have y2 := def_of hA2 y1
  have x2 := keep hA2 x1
  have f2_9 := sl_ne hA2 (by decide) f1_9
  have f2_11 := sl_ne hA2 (by decide) f1_11
  have f2_55 := sl_ne hA2 (by decide) f1_55
  have f2_56 := sl_same hA2 z1 (by decide)
  refine wpK_take 2 _ (.pointer (some ⟨L, i.toNat * 2, none⟩)) (by kernel_rfl) rfl hC (Same.wants rfl fun w' hw' => ex_index 55 56 rfl f2_55 f2_56 hi) ?_
  obtain ⟨A3, hA3⟩ : ∃ A, A = A2.put (some 57) (.pointer (some ⟨L, i.toNat * 2, none⟩)) := ⟨_, rfl⟩
  refine (show wpK _ _ _ _ _ _ _ (A2.put (some 57) (.pointer (some ⟨L, i.toNat * 2, none⟩))) _ from ?_)
  rw [← hA3]
  have z3 := size_of hA3 z2
  have y3 := def_of hA3 y2
  have x3 := keep hA3 x2
  have f3_9 := sl_ne hA3 (by decide) f2_9
  have f3_11 := sl_ne hA3 (by decide) f2_11
  have f3_57 := sl_same hA3 z2 (by decide)
  refine wpK_take 3 _ (.agg #[.int .i64 p, .int .i64 q]) (by kernel_rfl) rfl hC (Same.wants rfl fun w' hw' => ex_load 57 rfl f3_57 (g0 w' hw') (g1 w' hw')) ?_
  obtain ⟨A4, hA4⟩ : ∃ A, A = A3.put (some 58) (.agg #[.int .i64 p, .int .i64 q]) := ⟨_, rfl⟩
  refine (show wpK _ _ _ _ _ _ _ (A3.put (some 58) (.agg #[.int .i64 p, .int .i64 q])) _ from ?_)
  rw [← hA4]
  have z4 := size_of hA4 z3
  have y4 := def_of hA4 y3
  have x4 := keep hA4 x3
  have f4_9 := sl_ne hA4 (by decide) f3_9
  have f4_11 := sl_ne hA4 (by decide) f3_11
  have f4_58 := sl_same hA4 z3 (by decide)
  refine wpK_take 4 _ (.slice (some ⟨L, 0, none⟩) 5 5) (by kernel_rfl) rfl hC (Same.wants rfl fun w' hw' => ex_move 9 rfl f4_9) ?_
  obtain ⟨A5, hA5⟩ : ∃ A, A = A4.put (some 59) (.slice (some ⟨L, 0, none⟩) 5 5) := ⟨_, rfl⟩
  refine (show wpK _ _ _ _ _ _ _ (A4.put (some 59) (.slice (some ⟨L, 0, none⟩) 5 5)) _ from ?_)
  rw [← hA5]
  have z5 := size_of hA5 z4
  have y5 := def_of hA5 y4
  have x5 := keep hA5 x4
  have f5_11 := sl_ne hA5 (by decide) f4_11
  have f5_58 := sl_ne hA5 (by decide) f4_58
  have f5_59 := sl_same hA5 z4 (by decide)
  refine wpK_take 5 _ (.int .i64 k) (by kernel_rfl) rfl hC (Same.wants rfl fun w' hw' => ex_move 11 rfl f5_11) ?_
  obtain ⟨A6, hA6⟩ : ∃ A, A = A5.put (some 60) (.int .i64 k) := ⟨_, rfl⟩
  refine (show wpK _ _ _ _ _ _ _ (A5.put (some 60) (.int .i64 k)) _ from ?_)
  rw [← hA6]
  have z6 := size_of hA6 z5
  have y6 := def_of hA6 y5
  have x6 := keep hA6 x5
  have f6_58 := sl_ne hA6 (by decide) f5_58
  have f6_59 := sl_ne hA6 (by decide) f5_59
  have f6_60 := sl_same hA6 z5 (by decide)
  refine wpK_take 6 _ (.pointer (some ⟨L, k.toNat * 2, none⟩)) (by kernel_rfl) rfl hC (Same.wants rfl fun w' hw' => ex_index 59 60 rfl f6_59 f6_60 hk) ?_
  obtain ⟨A7, hA7⟩ : ∃ A, A = A6.put (some 61) (.pointer (some ⟨L, k.toNat * 2, none⟩)) := ⟨_, rfl⟩
  refine (show wpK _ _ _ _ _ _ _ (A6.put (some 61) (.pointer (some ⟨L, k.toNat * 2, none⟩))) _ from ?_)
  rw [← hA7]
  have z7 := size_of hA7 z6
  have y7 := def_of hA7 y6
  have x7 := keep hA7 x6
  have f7_58 := sl_ne hA7 (by decide) f6_58
  have f7_61 := sl_same hA7 z6 (by decide)
  refine wpK_take 7 _ (.agg #[.int .i64 u, .int .i64 v]) (by kernel_rfl) rfl hC (Same.wants rfl fun w' hw' => ex_load 61 rfl f7_61 (g2 w' hw') (g3 w' hw')) ?_
  obtain ⟨A8, hA8⟩ : ∃ A, A = A7.put (some 62) (.agg #[.int .i64 u, .int .i64 v]) := ⟨_, rfl⟩
  refine (show wpK _ _ _ _ _ _ _ (A7.put (some 62) (.agg #[.int .i64 u, .int .i64 v])) _ from ?_)
  rw [← hA8]
  have z8 := size_of hA8 z7
  have y8 := def_of hA8 y7
  have x8 := keep hA8 x7
  have f8_58 := sl_ne hA8 (by decide) f7_58
  have f8_62 := sl_same hA8 z7 (by decide)
  refine wpK_two 8 12 _ _ (by kernel_rfl) rfl rfl rfl rfl ?_ ?_
  · refine ok_call2 11 58 62 rfl f8_58 f8_62 cf11 ((hc _).mono ?_)
    rintro en w1 ⟨rfl, hb⟩
    refine ⟨_, rfl, ?_⟩
    have hC1 : Below w.heap.size w w1 := hC.trans (hb.mono (Nat.le_refl _))
    refine ⟨hC1, ?_⟩
    obtain ⟨A9, hA9⟩ : ∃ A, A = A8.put (some 63) (.tuple #[.agg #[.int .i64 r, .int .i64 s], .int .i64 e]) := ⟨_, rfl⟩
    refine (show wpK _ _ _ _ _ _ _ (A8.put (some 63) (.tuple #[.agg #[.int .i64 r, .int .i64 s], .int .i64 e])) _ from ?_)
    rw [← hA9]
    have z9 := size_of hA9 z8
    have y9 := def_of hA9 y8
    have x9 := keep hA9 x8
    have f9_63 := sl_same hA9 z8 (by decide)
    refine wpK_take 9 _ (.tuple #[.agg #[.int .i64 r, .int .i64 s], .int .i64 e]) (by kernel_rfl) rfl hC1 (Same.wants rfl fun w' hw' => ex_move 63 rfl f9_63) ?_
    obtain ⟨A10, hA10⟩ : ∃ A, A = A9.put (some 54) (.tuple #[.agg #[.int .i64 r, .int .i64 s], .int .i64 e]) := ⟨_, rfl⟩
    refine (show wpK _ _ _ _ _ _ _ (A9.put (some 54) (.tuple #[.agg #[.int .i64 r, .int .i64 s], .int .i64 e])) _ from ?_)
    rw [← hA10]
    have z10 := size_of hA10 z9
    have y10 := def_of hA10 y9
    have x10 := keep hA10 x9
    have f10_54 := sl_same hA10 z9 (by decide)
    refine wpK_take 10 _ (.agg #[.int .i64 r, .int .i64 s]) (by kernel_rfl) rfl hC1 (Same.wants rfl fun w' hw' => ex_ext0 54 rfl f10_54) ?_
    obtain ⟨A11, hA11⟩ : ∃ A, A = A10.put (some 64) (.agg #[.int .i64 r, .int .i64 s]) := ⟨_, rfl⟩
    refine (show wpK _ _ _ _ _ _ _ (A10.put (some 64) (.agg #[.int .i64 r, .int .i64 s])) _ from ?_)
    rw [← hA11]
    have z11 := size_of hA11 z10
    have y11 := def_of hA11 y10
    have x11 := keep hA11 x10
    have f11_54 := sl_ne hA11 (by decide) f10_54
    have f11_64 := sl_same hA11 z10 (by decide)
    refine wpK_take 11 _ (.int .i64 e) (by kernel_rfl) rfl hC1 (Same.wants rfl fun w' hw' => ex_ext1 54 rfl f11_54) ?_
    obtain ⟨A12, hA12⟩ : ∃ A, A = A11.put (some 65) (.int .i64 e) := ⟨_, rfl⟩
    refine (show wpK _ _ _ _ _ _ _ (A11.put (some 65) (.int .i64 e)) _ from ?_)
    rw [← hA12]
    have z12 := size_of hA12 z11
    have y12 := def_of hA12 y11
    have x12 := keep hA12 x11
    have f12_64 := sl_ne hA12 (by decide) f11_64
    have f12_65 := sl_same hA12 z11 (by decide)
    refine wpK_one 12 _ (by kernel_rfl) rfl rfl (ok_alloc rfl ?_)
    have hC2 : Below w.heap.size w (w1.alloc (V 0 0)) := hC1.alloc hC1.size _
    refine ⟨hC2, ?_⟩
    obtain ⟨A13, hA13⟩ : ∃ A, A = A12.put (some 12) (.pointer (some ⟨w1.heap.size, 0, none⟩)) := ⟨_, rfl⟩
    refine (show wpK _ _ _ _ _ _ _ (A12.put (some 12) (.pointer (some ⟨w1.heap.size, 0, none⟩))) _ from ?_)
    rw [← hA13]
    have z13 := size_of hA13 z12
    have y13 := def_of hA13 y12
    have x13 := keep hA13 x12
    have f13_64 := sl_ne hA13 (by decide) f12_64
    have f13_65 := sl_ne hA13 (by decide) f12_65
    have f13_12 := sl_same hA13 z12 (by decide)
    have hB : w.heap.size ≤ w1.heap.size := hC1.size
    refine wpK_one 13 _ (by kernel_rfl) rfl rfl (ok_store 12 64 (p := 0) (q := 0) rfl f13_12 f13_64 (by simp) (by simp) (by simp) (by simp) ?_)
    have hC3 : Below w.heap.size w (((w1.alloc (V 0 0)).setCell ⟨w1.heap.size, 0, none⟩ (.int .i64 r)).setCell ⟨w1.heap.size, 1, none⟩ (.int .i64 s)) := (hC2.setCell hB _).setCell hB _
    refine ⟨hC3, ?_⟩
    refine (show wpK _ _ _ _ _ _ _ A13 _ from ?_)
    refine wpK_take 14 _ (.int .i64 e) (by kernel_rfl) rfl hC3 (Same.wants rfl fun w' hw' => ex_assign 65 rfl f13_65) ?_
    obtain ⟨A14, hA14⟩ : ∃ A, A = A13.put (some 13) (.int .i64 e) := ⟨_, rfl⟩
    refine (show wpK _ _ _ _ _ _ _ (A13.put (some 13) (.int .i64 e)) _ from ?_)
    rw [← hA14]
    have z14 := size_of hA14 z13
    have y14 := def_of hA14 y13
    have x14 := keep hA14 x13
    have f14_12 := sl_ne hA14 (by decide) f13_12
    have f14_13 := sl_same hA14 z13 (by decide)
    refine wpK_end (by kernel_rfl) ?_
    exact hQ _ w1.heap.size _ z14 y14 x14 f14_12 f14_13 hC3 (two_cells0 (by simp) (by simp)) (two_cells1 (by simp))
  · refine ok_alloc rfl ?_
    have hC1 : Below w.heap.size w (w.drew.alloc (V 0 0)) := hC.alloc (Nat.le_refl _) _
    refine ⟨hC1, ?_⟩
    obtain ⟨A15, hA15⟩ : ∃ A, A = A8.put (some 12) (.pointer (some ⟨w.heap.size, 0, none⟩)) := ⟨_, rfl⟩
    refine (show wpK _ _ _ _ _ _ _ (A8.put (some 12) (.pointer (some ⟨w.heap.size, 0, none⟩))) _ from ?_)
    rw [← hA15]
    have z15 := size_of hA15 z8
    have y15 := def_of hA15 y8
    have x15 := keep hA15 x8
    have f15_58 := sl_ne hA15 (by decide) f8_58
    have f15_62 := sl_ne hA15 (by decide) f8_62
    have f15_12 := sl_same hA15 z8 (by decide)
    refine wpK_one 8 _ (by kernel_rfl) rfl rfl (ok_call2 11 58 62 rfl f15_58 f15_62 cf11 ((hc _).mono ?_))
    rintro en w1 ⟨rfl, hb⟩
    refine ⟨_, rfl, ?_⟩
    have hC2 : Below w.heap.size w w1 := hC1.trans (hb.mono (by simp))
    refine ⟨hC2, ?_⟩
    obtain ⟨A16, hA16⟩ : ∃ A, A = A15.put (some 63) (.tuple #[.agg #[.int .i64 r, .int .i64 s], .int .i64 e]) := ⟨_, rfl⟩
    refine (show wpK _ _ _ _ _ _ _ (A15.put (some 63) (.tuple #[.agg #[.int .i64 r, .int .i64 s], .int .i64 e])) _ from ?_)
    rw [← hA16]
    have z16 := size_of hA16 z15
    have y16 := def_of hA16 y15
    have x16 := keep hA16 x15
    have f16_12 := sl_ne hA16 (by decide) f15_12
    have f16_63 := sl_same hA16 z15 (by decide)
    refine wpK_take 9 _ (.tuple #[.agg #[.int .i64 r, .int .i64 s], .int .i64 e]) (by kernel_rfl) rfl hC2 (Same.wants rfl fun w' hw' => ex_move 63 rfl f16_63) ?_
    obtain ⟨A17, hA17⟩ : ∃ A, A = A16.put (some 54) (.tuple #[.agg #[.int .i64 r, .int .i64 s], .int .i64 e]) := ⟨_, rfl⟩
    refine (show wpK _ _ _ _ _ _ _ (A16.put (some 54) (.tuple #[.agg #[.int .i64 r, .int .i64 s], .int .i64 e])) _ from ?_)
    rw [← hA17]
    have z17 := size_of hA17 z16
    have y17 := def_of hA17 y16
    have x17 := keep hA17 x16
    have f17_12 := sl_ne hA17 (by decide) f16_12
    have f17_54 := sl_same hA17 z16 (by decide)
    refine wpK_take 10 _ (.agg #[.int .i64 r, .int .i64 s]) (by kernel_rfl) rfl hC2 (Same.wants rfl fun w' hw' => ex_ext0 54 rfl f17_54) ?_
    obtain ⟨A18, hA18⟩ : ∃ A, A = A17.put (some 64) (.agg #[.int .i64 r, .int .i64 s]) := ⟨_, rfl⟩
    refine (show wpK _ _ _ _ _ _ _ (A17.put (some 64) (.agg #[.int .i64 r, .int .i64 s])) _ from ?_)
    rw [← hA18]
    have z18 := size_of hA18 z17
    have y18 := def_of hA18 y17
    have x18 := keep hA18 x17
    have f18_12 := sl_ne hA18 (by decide) f17_12
    have f18_54 := sl_ne hA18 (by decide) f17_54
    have f18_64 := sl_same hA18 z17 (by decide)
    refine wpK_take 11 _ (.int .i64 e) (by kernel_rfl) rfl hC2 (Same.wants rfl fun w' hw' => ex_ext1 54 rfl f18_54) ?_
    obtain ⟨A19, hA19⟩ : ∃ A, A = A18.put (some 65) (.int .i64 e) := ⟨_, rfl⟩
    refine (show wpK _ _ _ _ _ _ _ (A18.put (some 65) (.int .i64 e)) _ from ?_)
    rw [← hA19]
    have z19 := size_of hA19 z18
    have y19 := def_of hA19 y18
    have x19 := keep hA19 x18
    have f19_12 := sl_ne hA19 (by decide) f18_12
    have f19_64 := sl_ne hA19 (by decide) f18_64
    have f19_65 := sl_same hA19 z18 (by decide)
    have hB : w.heap.size ≤ w.heap.size := Nat.le_refl _
    have k0 : w1.cell? ⟨w.heap.size, 0, none⟩ = some (.int .i64 0) := cell_later hb (by go_simp)
    have k1 : w1.cell? ⟨w.heap.size, 1, none⟩ = some (.int .i64 0) := cell_later hb (by go_simp)
    have k2 : w1.frozen? ⟨w.heap.size, 0, none⟩ = false := (hb.frozen (by go_simp)).trans (by go_simp)
    have k3 : w1.frozen? ⟨w.heap.size, 1, none⟩ = false := (hb.frozen (by go_simp)).trans (by go_simp)
    refine wpK_one 13 _ (by kernel_rfl) rfl rfl (ok_store 12 64 (p := 0) (q := 0) rfl f19_12 f19_64 k0 k1 k2 k3 ?_)
    have hC3 : Below w.heap.size w (((w1).setCell ⟨w.heap.size, 0, none⟩ (.int .i64 r)).setCell ⟨w.heap.size, 1, none⟩ (.int .i64 s)) := (hC2.setCell hB _).setCell hB _
    refine ⟨hC3, ?_⟩
    refine (show wpK _ _ _ _ _ _ _ A19 _ from ?_)
    refine wpK_take 14 _ (.int .i64 e) (by kernel_rfl) rfl hC3 (Same.wants rfl fun w' hw' => ex_assign 65 rfl f19_65) ?_
    obtain ⟨A20, hA20⟩ : ∃ A, A = A19.put (some 13) (.int .i64 e) := ⟨_, rfl⟩
    refine (show wpK _ _ _ _ _ _ _ (A19.put (some 13) (.int .i64 e)) _ from ?_)
    rw [← hA20]
    have z20 := size_of hA20 z19
    have y20 := def_of hA20 y19
    have x20 := keep hA20 x19
    have f20_12 := sl_ne hA20 (by decide) f19_12
    have f20_13 := sl_same hA20 z19 (by decide)
    refine wpK_end (by kernel_rfl) ?_
    exact hQ _ w.heap.size _ z20 y20 (fun t ht => x20 t (fun h => ht (by simp only [List.mem_cons, List.not_mem_nil, or_false] at h; rcases h with rfl | rfl | rfl | rfl | rfl | rfl | rfl | rfl | rfl | rfl | rfl | rfl | rfl | rfl <;> decide))) f20_12 f20_13 hC3 (two_cells0 (by rw [k0]; rfl) (by rw [k1]; rfl)) (two_cells1 (by rw [k1]; rfl))

set_option maxHeartbeats 1600000 in
theorem reg11 {Q : Exit → Act → World → Prop} (a : Act) (w : World) (L : Nat) (i k p q u v r s e : Int) (hsz : a.tmps.size = 154)
    (e9 : sl a 9 = .slice (some ⟨L, 0, none⟩) 5 5) (e10 : sl a 10 = .int .i64 i) (e11 : sl a 11 = .int .i64 k) (hi : 0 ≤ i ∧ i < 5) (hk : 0 ≤ k ∧ k < 5)
    (c0 : w.cell? ⟨L, i.toNat * 2, none⟩ = some (.int .i64 p)) (c1 : w.cell? ⟨L, i.toNat * 2 + 1, none⟩ = some (.int .i64 q))
    (c2 : w.cell? ⟨L, k.toNat * 2, none⟩ = some (.int .i64 u)) (c3 : w.cell? ⟨L, k.toNat * 2 + 1, none⟩ = some (.int .i64 v))
    (hc : ∀ w, Calls Try.prog 12 #[.agg #[.int .i64 p, .int .i64 q], .agg #[.int .i64 u, .int .i64 v]] w fun en w' => en = .returned (.tuple #[.agg #[.int .i64 r, .int .i64 s], .int .i64 e]) ∧ Below w.heap.size w w')
    (hQ : ∀ A b w', A.tmps.size = 154 → A.defers = a.defers → (∀ t, t ∉ ([15, 14, 77, 76, 66, 75, 74, 73, 72, 71, 70, 69, 68, 67] : List Tmp) → sl A t = sl a t) → sl A 14 = .pointer (some ⟨b, 0, none⟩) → sl A 15 = .int .i64 e →
      Below w.heap.size w w' → w'.cell? ⟨b, 0, none⟩ = some (.int .i64 r) → w'.cell? ⟨b, 1, none⟩ = some (.int .i64 s) → Q .normal A w') :
    (Code.region 11 #[{ dst := some 67, op := Op.move (Operand.tmp 9), type := 26, pos := p41, after := #[], guard := none }, { dst := some 68, op := Op.move (Operand.tmp 10), type := 3, pos := p41, after := #[], guard := none }, { dst := some 69, op := Op.indexAddr 26 (Operand.tmp 67) (Operand.tmp 68), type := 0, pos := p41, after := #[{ on := 0, ground := Ground.data }, { on := 1, ground := Ground.data }], guard := none }, { dst := some 70, op := Op.load 24 (Operand.tmp 69), type := 24, pos := p41, after := #[{ on := 2, ground := Ground.data }], guard := none }, { dst := some 71, op := Op.move (Operand.tmp 9), type := 26, pos := p41, after := #[], guard := none }, { dst := some 72, op := Op.move (Operand.tmp 11), type := 3, pos := p41, after := #[], guard := none }, { dst := some 73, op := Op.indexAddr 26 (Operand.tmp 71) (Operand.tmp 72), type := 0, pos := p41, after := #[{ on := 4, ground := Ground.data }, { on := 5, ground := Ground.data }], guard := none }, { dst := some 74, op := Op.load 24 (Operand.tmp 73), type := 24, pos := p41, after := #[{ on := 6, ground := Ground.data }], guard := none }, { dst := some 75, op := Op.call { callee := Callee.value (Operand.func 12), args := #[Operand.tmp 70, Operand.tmp 74], argTypes := #[24, 24] }, type := 30, pos := p41, after := #[{ on := 3, ground := Ground.data }, { on := 7, ground := Ground.data }], guard := none }, { dst := some 66, op := Op.move (Operand.tmp 75), type := 30, pos := p41, after := #[{ on := 8, ground := Ground.data }], guard := none }, { dst := some 76, op := Op.extract (Operand.tmp 66) 0, type := 24, pos := p41, after := #[{ on := 9, ground := Ground.data }], guard := none }, { dst := some 77, op := Op.extract (Operand.tmp 66) 1, type := 3, pos := p41, after := #[{ on := 9, ground := Ground.data }, { on := 13, ground := Ground.gcOnly Departure.lateStores }], guard := none }, { dst := some 14, op := Op.alloc 24, type := 0, pos := p41, after := #[], guard := none }, { dst := none, op := Op.store 24 (Operand.tmp 14) (Operand.tmp 76), type := 0, pos := p41, after := #[{ on := 12, ground := Ground.data }, { on := 10, ground := Ground.data }, { on := 8, ground := Ground.chain }, { on := 0, ground := Ground.phase }, { on := 1, ground := Ground.phase }, { on := 2, ground := Ground.phase }, { on := 3, ground := Ground.phase }, { on := 4, ground := Ground.phase }, { on := 5, ground := Ground.phase }, { on := 6, ground := Ground.phase }, { on := 7, ground := Ground.phase }, { on := 8, ground := Ground.phase }, { on := 9, ground := Ground.phase }, { on := 10, ground := Ground.phase }, { on := 11, ground := Ground.textOnly Departure.lateStores }, { on := 12, ground := Ground.phase }], guard := none }, { dst := some 15, op := Op.assign (Operand.tmp 77), type := 3, pos := p41, after := #[{ on := 11, ground := Ground.data }, { on := 13, ground := Ground.chain }, { on := 0, ground := Ground.phase }, { on := 1, ground := Ground.phase }, { on := 2, ground := Ground.phase }, { on := 3, ground := Ground.phase }, { on := 4, ground := Ground.phase }, { on := 5, ground := Ground.phase }, { on := 6, ground := Ground.phase }, { on := 7, ground := Ground.phase }, { on := 8, ground := Ground.phase }, { on := 9, ground := Ground.phase }, { on := 10, ground := Ground.phase }, { on := 11, ground := Ground.phase }, { on := 12, ground := Ground.phase }, { on := 13, ground := Ground.phase }], guard := none }] true).wp Try.prog Q a w := by
  refine wp_region_K (fun w' => Below w.heap.size w w') (by kernel_rfl) ?_
  have hC : Below w.heap.size w w.drew := (Below.refl _ _).drew
  have x0 : ∀ t, t ∉ ([] : List Tmp) → sl a t = sl a t := fun _ _ => rfl
  have L1 : L < w.heap.size := World.block_lt_of_cell? _ _ c0
  have g0 : ∀ w', Below w.heap.size w w' → w'.cell? ⟨L, i.toNat * 2, none⟩ = some (.int .i64 p) := fun w' h => (h.cell L1).trans c0
  have g1 : ∀ w', Below w.heap.size w w' → w'.cell? ⟨L, i.toNat * 2 + 1, none⟩ = some (.int .i64 q) := fun w' h => (h.cell L1).trans c1
  have g2 : ∀ w', Below w.heap.size w w' → w'.cell? ⟨L, k.toNat * 2, none⟩ = some (.int .i64 u) := fun w' h => (h.cell L1).trans c2
  have g3 : ∀ w', Below w.heap.size w w' → w'.cell? ⟨L, k.toNat * 2 + 1, none⟩ = some (.int .i64 v) := fun w' h => (h.cell L1).trans c3
  refine wpK_take 0 _ (.slice (some ⟨L, 0, none⟩) 5 5) (by kernel_rfl) rfl hC (Same.wants rfl fun w' hw' => ex_move 9 rfl e9) ?_
  obtain ⟨A1, hA1⟩ : ∃ A, A = a.put (some 67) (.slice (some ⟨L, 0, none⟩) 5 5) := ⟨_, rfl⟩
  refine (show wpK _ _ _ _ _ _ _ (a.put (some 67) (.slice (some ⟨L, 0, none⟩) 5 5)) _ from ?_)
  rw [← hA1]
  have z1 := size_of hA1 hsz
  have y1 := def_of hA1 (rfl : a.defers = a.defers)
  have x1 := keep hA1 x0
  have f1_9 := sl_ne hA1 (by decide) e9
  have f1_10 := sl_ne hA1 (by decide) e10
  have f1_11 := sl_ne hA1 (by decide) e11
  have f1_67 := sl_same hA1 hsz (by decide)
  refine wpK_take 1 _ (.int .i64 i) (by kernel_rfl) rfl hC (Same.wants rfl fun w' hw' => ex_move 10 rfl f1_10) ?_
  obtain ⟨A2, hA2⟩ : ∃ A, A = A1.put (some 68) (.int .i64 i) := ⟨_, rfl⟩
  refine (show wpK _ _ _ _ _ _ _ (A1.put (some 68) (.int .i64 i)) _ from ?_)
  rw [← hA2]
  have z2 := size_of hA2 z1
  have y2 := def_of hA2 y1
  have x2 := keep hA2 x1
  have f2_9 := sl_ne hA2 (by decide) f1_9
  have f2_11 := sl_ne hA2 (by decide) f1_11
  have f2_67 := sl_ne hA2 (by decide) f1_67
  have f2_68 := sl_same hA2 z1 (by decide)
  refine wpK_take 2 _ (.pointer (some ⟨L, i.toNat * 2, none⟩)) (by kernel_rfl) rfl hC (Same.wants rfl fun w' hw' => ex_index 67 68 rfl f2_67 f2_68 hi) ?_
  obtain ⟨A3, hA3⟩ : ∃ A, A = A2.put (some 69) (.pointer (some ⟨L, i.toNat * 2, none⟩)) := ⟨_, rfl⟩
  refine (show wpK _ _ _ _ _ _ _ (A2.put (some 69) (.pointer (some ⟨L, i.toNat * 2, none⟩))) _ from ?_)
  rw [← hA3]
  have z3 := size_of hA3 z2
  have y3 := def_of hA3 y2
  have x3 := keep hA3 x2
  have f3_9 := sl_ne hA3 (by decide) f2_9
  have f3_11 := sl_ne hA3 (by decide) f2_11
  have f3_69 := sl_same hA3 z2 (by decide)
  refine wpK_take 3 _ (.agg #[.int .i64 p, .int .i64 q]) (by kernel_rfl) rfl hC (Same.wants rfl fun w' hw' => ex_load 69 rfl f3_69 (g0 w' hw') (g1 w' hw')) ?_
  obtain ⟨A4, hA4⟩ : ∃ A, A = A3.put (some 70) (.agg #[.int .i64 p, .int .i64 q]) := ⟨_, rfl⟩
  refine (show wpK _ _ _ _ _ _ _ (A3.put (some 70) (.agg #[.int .i64 p, .int .i64 q])) _ from ?_)
  rw [← hA4]
  have z4 := size_of hA4 z3
  have y4 := def_of hA4 y3
  have x4 := keep hA4 x3
  have f4_9 := sl_ne hA4 (by decide) f3_9
  have f4_11 := sl_ne hA4 (by decide) f3_11
  have f4_70 := sl_same hA4 z3 (by decide)
  refine wpK_take 4 _ (.slice (some ⟨L, 0, none⟩) 5 5) (by kernel_rfl) rfl hC (Same.wants rfl fun w' hw' => ex_move 9 rfl f4_9) ?_
  obtain ⟨A5, hA5⟩ : ∃ A, A = A4.put (some 71) (.slice (some ⟨L, 0, none⟩) 5 5) := ⟨_, rfl⟩
  refine (show wpK _ _ _ _ _ _ _ (A4.put (some 71) (.slice (some ⟨L, 0, none⟩) 5 5)) _ from ?_)
  rw [← hA5]
  have z5 := size_of hA5 z4
  have y5 := def_of hA5 y4
  have x5 := keep hA5 x4
  have f5_11 := sl_ne hA5 (by decide) f4_11
  have f5_70 := sl_ne hA5 (by decide) f4_70
  have f5_71 := sl_same hA5 z4 (by decide)
  refine wpK_take 5 _ (.int .i64 k) (by kernel_rfl) rfl hC (Same.wants rfl fun w' hw' => ex_move 11 rfl f5_11) ?_
  obtain ⟨A6, hA6⟩ : ∃ A, A = A5.put (some 72) (.int .i64 k) := ⟨_, rfl⟩
  refine (show wpK _ _ _ _ _ _ _ (A5.put (some 72) (.int .i64 k)) _ from ?_)
  rw [← hA6]
  have z6 := size_of hA6 z5
  have y6 := def_of hA6 y5
  have x6 := keep hA6 x5
  have f6_70 := sl_ne hA6 (by decide) f5_70
  have f6_71 := sl_ne hA6 (by decide) f5_71
  have f6_72 := sl_same hA6 z5 (by decide)
  refine wpK_take 6 _ (.pointer (some ⟨L, k.toNat * 2, none⟩)) (by kernel_rfl) rfl hC (Same.wants rfl fun w' hw' => ex_index 71 72 rfl f6_71 f6_72 hk) ?_
  obtain ⟨A7, hA7⟩ : ∃ A, A = A6.put (some 73) (.pointer (some ⟨L, k.toNat * 2, none⟩)) := ⟨_, rfl⟩
  refine (show wpK _ _ _ _ _ _ _ (A6.put (some 73) (.pointer (some ⟨L, k.toNat * 2, none⟩))) _ from ?_)
  rw [← hA7]
  have z7 := size_of hA7 z6
  have y7 := def_of hA7 y6
  have x7 := keep hA7 x6
  have f7_70 := sl_ne hA7 (by decide) f6_70
  have f7_73 := sl_same hA7 z6 (by decide)
  refine wpK_take 7 _ (.agg #[.int .i64 u, .int .i64 v]) (by kernel_rfl) rfl hC (Same.wants rfl fun w' hw' => ex_load 73 rfl f7_73 (g2 w' hw') (g3 w' hw')) ?_
  obtain ⟨A8, hA8⟩ : ∃ A, A = A7.put (some 74) (.agg #[.int .i64 u, .int .i64 v]) := ⟨_, rfl⟩
  refine (show wpK _ _ _ _ _ _ _ (A7.put (some 74) (.agg #[.int .i64 u, .int .i64 v])) _ from ?_)
  rw [← hA8]
  have z8 := size_of hA8 z7
  have y8 := def_of hA8 y7
  have x8 := keep hA8 x7
  have f8_70 := sl_ne hA8 (by decide) f7_70
  have f8_74 := sl_same hA8 z7 (by decide)
  refine wpK_two 8 12 _ _ (by kernel_rfl) rfl rfl rfl rfl ?_ ?_
  · refine ok_call2 12 70 74 rfl f8_70 f8_74 cf12 ((hc _).mono ?_)
    rintro en w1 ⟨rfl, hb⟩
    refine ⟨_, rfl, ?_⟩
    have hC1 : Below w.heap.size w w1 := hC.trans (hb.mono (Nat.le_refl _))
    refine ⟨hC1, ?_⟩
    obtain ⟨A9, hA9⟩ : ∃ A, A = A8.put (some 75) (.tuple #[.agg #[.int .i64 r, .int .i64 s], .int .i64 e]) := ⟨_, rfl⟩
    refine (show wpK _ _ _ _ _ _ _ (A8.put (some 75) (.tuple #[.agg #[.int .i64 r, .int .i64 s], .int .i64 e])) _ from ?_)
    rw [← hA9]
    have z9 := size_of hA9 z8
    have y9 := def_of hA9 y8
    have x9 := keep hA9 x8
    have f9_75 := sl_same hA9 z8 (by decide)
    refine wpK_take 9 _ (.tuple #[.agg #[.int .i64 r, .int .i64 s], .int .i64 e]) (by kernel_rfl) rfl hC1 (Same.wants rfl fun w' hw' => ex_move 75 rfl f9_75) ?_
    obtain ⟨A10, hA10⟩ : ∃ A, A = A9.put (some 66) (.tuple #[.agg #[.int .i64 r, .int .i64 s], .int .i64 e]) := ⟨_, rfl⟩
    refine (show wpK _ _ _ _ _ _ _ (A9.put (some 66) (.tuple #[.agg #[.int .i64 r, .int .i64 s], .int .i64 e])) _ from ?_)
    rw [← hA10]
    have z10 := size_of hA10 z9
    have y10 := def_of hA10 y9
    have x10 := keep hA10 x9
    have f10_66 := sl_same hA10 z9 (by decide)
    refine wpK_take 10 _ (.agg #[.int .i64 r, .int .i64 s]) (by kernel_rfl) rfl hC1 (Same.wants rfl fun w' hw' => ex_ext0 66 rfl f10_66) ?_
    obtain ⟨A11, hA11⟩ : ∃ A, A = A10.put (some 76) (.agg #[.int .i64 r, .int .i64 s]) := ⟨_, rfl⟩
    refine (show wpK _ _ _ _ _ _ _ (A10.put (some 76) (.agg #[.int .i64 r, .int .i64 s])) _ from ?_)
    rw [← hA11]
    have z11 := size_of hA11 z10
    have y11 := def_of hA11 y10
    have x11 := keep hA11 x10
    have f11_66 := sl_ne hA11 (by decide) f10_66
    have f11_76 := sl_same hA11 z10 (by decide)
    refine wpK_take 11 _ (.int .i64 e) (by kernel_rfl) rfl hC1 (Same.wants rfl fun w' hw' => ex_ext1 66 rfl f11_66) ?_
    obtain ⟨A12, hA12⟩ : ∃ A, A = A11.put (some 77) (.int .i64 e) := ⟨_, rfl⟩
    refine (show wpK _ _ _ _ _ _ _ (A11.put (some 77) (.int .i64 e)) _ from ?_)
    rw [← hA12]
    have z12 := size_of hA12 z11
    have y12 := def_of hA12 y11
    have x12 := keep hA12 x11
    have f12_76 := sl_ne hA12 (by decide) f11_76
    have f12_77 := sl_same hA12 z11 (by decide)
    refine wpK_one 12 _ (by kernel_rfl) rfl rfl (ok_alloc rfl ?_)
    have hC2 : Below w.heap.size w (w1.alloc (V 0 0)) := hC1.alloc hC1.size _
    refine ⟨hC2, ?_⟩
    obtain ⟨A13, hA13⟩ : ∃ A, A = A12.put (some 14) (.pointer (some ⟨w1.heap.size, 0, none⟩)) := ⟨_, rfl⟩
    refine (show wpK _ _ _ _ _ _ _ (A12.put (some 14) (.pointer (some ⟨w1.heap.size, 0, none⟩))) _ from ?_)
    rw [← hA13]
    have z13 := size_of hA13 z12
    have y13 := def_of hA13 y12
    have x13 := keep hA13 x12
    have f13_76 := sl_ne hA13 (by decide) f12_76
    have f13_77 := sl_ne hA13 (by decide) f12_77
    have f13_14 := sl_same hA13 z12 (by decide)
    have hB : w.heap.size ≤ w1.heap.size := hC1.size
    refine wpK_one 13 _ (by kernel_rfl) rfl rfl (ok_store 14 76 (p := 0) (q := 0) rfl f13_14 f13_76 (by simp) (by simp) (by simp) (by simp) ?_)
    have hC3 : Below w.heap.size w (((w1.alloc (V 0 0)).setCell ⟨w1.heap.size, 0, none⟩ (.int .i64 r)).setCell ⟨w1.heap.size, 1, none⟩ (.int .i64 s)) := (hC2.setCell hB _).setCell hB _
    refine ⟨hC3, ?_⟩
    refine (show wpK _ _ _ _ _ _ _ A13 _ from ?_)
    refine wpK_take 14 _ (.int .i64 e) (by kernel_rfl) rfl hC3 (Same.wants rfl fun w' hw' => ex_assign 77 rfl f13_77) ?_
    obtain ⟨A14, hA14⟩ : ∃ A, A = A13.put (some 15) (.int .i64 e) := ⟨_, rfl⟩
    refine (show wpK _ _ _ _ _ _ _ (A13.put (some 15) (.int .i64 e)) _ from ?_)
    rw [← hA14]
    have z14 := size_of hA14 z13
    have y14 := def_of hA14 y13
    have x14 := keep hA14 x13
    have f14_14 := sl_ne hA14 (by decide) f13_14
    have f14_15 := sl_same hA14 z13 (by decide)
    refine wpK_end (by kernel_rfl) ?_
    exact hQ _ w1.heap.size _ z14 y14 x14 f14_14 f14_15 hC3 (two_cells0 (by simp) (by simp)) (two_cells1 (by simp))
  · refine ok_alloc rfl ?_
    have hC1 : Below w.heap.size w (w.drew.alloc (V 0 0)) := hC.alloc (Nat.le_refl _) _
    refine ⟨hC1, ?_⟩
    obtain ⟨A15, hA15⟩ : ∃ A, A = A8.put (some 14) (.pointer (some ⟨w.heap.size, 0, none⟩)) := ⟨_, rfl⟩
    refine (show wpK _ _ _ _ _ _ _ (A8.put (some 14) (.pointer (some ⟨w.heap.size, 0, none⟩))) _ from ?_)
    rw [← hA15]
    have z15 := size_of hA15 z8
    have y15 := def_of hA15 y8
    have x15 := keep hA15 x8
    have f15_70 := sl_ne hA15 (by decide) f8_70
    have f15_74 := sl_ne hA15 (by decide) f8_74
    have f15_14 := sl_same hA15 z8 (by decide)
    refine wpK_one 8 _ (by kernel_rfl) rfl rfl (ok_call2 12 70 74 rfl f15_70 f15_74 cf12 ((hc _).mono ?_))
    rintro en w1 ⟨rfl, hb⟩
    refine ⟨_, rfl, ?_⟩
    have hC2 : Below w.heap.size w w1 := hC1.trans (hb.mono (by simp))
    refine ⟨hC2, ?_⟩
    obtain ⟨A16, hA16⟩ : ∃ A, A = A15.put (some 75) (.tuple #[.agg #[.int .i64 r, .int .i64 s], .int .i64 e]) := ⟨_, rfl⟩
    refine (show wpK _ _ _ _ _ _ _ (A15.put (some 75) (.tuple #[.agg #[.int .i64 r, .int .i64 s], .int .i64 e])) _ from ?_)
    rw [← hA16]
    have z16 := size_of hA16 z15
    have y16 := def_of hA16 y15
    have x16 := keep hA16 x15
    have f16_14 := sl_ne hA16 (by decide) f15_14
    have f16_75 := sl_same hA16 z15 (by decide)
    refine wpK_take 9 _ (.tuple #[.agg #[.int .i64 r, .int .i64 s], .int .i64 e]) (by kernel_rfl) rfl hC2 (Same.wants rfl fun w' hw' => ex_move 75 rfl f16_75) ?_
    obtain ⟨A17, hA17⟩ : ∃ A, A = A16.put (some 66) (.tuple #[.agg #[.int .i64 r, .int .i64 s], .int .i64 e]) := ⟨_, rfl⟩
    refine (show wpK _ _ _ _ _ _ _ (A16.put (some 66) (.tuple #[.agg #[.int .i64 r, .int .i64 s], .int .i64 e])) _ from ?_)
    rw [← hA17]
    have z17 := size_of hA17 z16
    have y17 := def_of hA17 y16
    have x17 := keep hA17 x16
    have f17_14 := sl_ne hA17 (by decide) f16_14
    have f17_66 := sl_same hA17 z16 (by decide)
    refine wpK_take 10 _ (.agg #[.int .i64 r, .int .i64 s]) (by kernel_rfl) rfl hC2 (Same.wants rfl fun w' hw' => ex_ext0 66 rfl f17_66) ?_
    obtain ⟨A18, hA18⟩ : ∃ A, A = A17.put (some 76) (.agg #[.int .i64 r, .int .i64 s]) := ⟨_, rfl⟩
    refine (show wpK _ _ _ _ _ _ _ (A17.put (some 76) (.agg #[.int .i64 r, .int .i64 s])) _ from ?_)
    rw [← hA18]
    have z18 := size_of hA18 z17
    have y18 := def_of hA18 y17
    have x18 := keep hA18 x17
    have f18_14 := sl_ne hA18 (by decide) f17_14
    have f18_66 := sl_ne hA18 (by decide) f17_66
    have f18_76 := sl_same hA18 z17 (by decide)
    refine wpK_take 11 _ (.int .i64 e) (by kernel_rfl) rfl hC2 (Same.wants rfl fun w' hw' => ex_ext1 66 rfl f18_66) ?_
    obtain ⟨A19, hA19⟩ : ∃ A, A = A18.put (some 77) (.int .i64 e) := ⟨_, rfl⟩
    refine (show wpK _ _ _ _ _ _ _ (A18.put (some 77) (.int .i64 e)) _ from ?_)
    rw [← hA19]
    have z19 := size_of hA19 z18
    have y19 := def_of hA19 y18
    have x19 := keep hA19 x18
    have f19_14 := sl_ne hA19 (by decide) f18_14
    have f19_76 := sl_ne hA19 (by decide) f18_76
    have f19_77 := sl_same hA19 z18 (by decide)
    have hB : w.heap.size ≤ w.heap.size := Nat.le_refl _
    have k0 : w1.cell? ⟨w.heap.size, 0, none⟩ = some (.int .i64 0) := cell_later hb (by go_simp)
    have k1 : w1.cell? ⟨w.heap.size, 1, none⟩ = some (.int .i64 0) := cell_later hb (by go_simp)
    have k2 : w1.frozen? ⟨w.heap.size, 0, none⟩ = false := (hb.frozen (by go_simp)).trans (by go_simp)
    have k3 : w1.frozen? ⟨w.heap.size, 1, none⟩ = false := (hb.frozen (by go_simp)).trans (by go_simp)
    refine wpK_one 13 _ (by kernel_rfl) rfl rfl (ok_store 14 76 (p := 0) (q := 0) rfl f19_14 f19_76 k0 k1 k2 k3 ?_)
    have hC3 : Below w.heap.size w (((w1).setCell ⟨w.heap.size, 0, none⟩ (.int .i64 r)).setCell ⟨w.heap.size, 1, none⟩ (.int .i64 s)) := (hC2.setCell hB _).setCell hB _
    refine ⟨hC3, ?_⟩
    refine (show wpK _ _ _ _ _ _ _ A19 _ from ?_)
    refine wpK_take 14 _ (.int .i64 e) (by kernel_rfl) rfl hC3 (Same.wants rfl fun w' hw' => ex_assign 77 rfl f19_77) ?_
    obtain ⟨A20, hA20⟩ : ∃ A, A = A19.put (some 15) (.int .i64 e) := ⟨_, rfl⟩
    refine (show wpK _ _ _ _ _ _ _ (A19.put (some 15) (.int .i64 e)) _ from ?_)
    rw [← hA20]
    have z20 := size_of hA20 z19
    have y20 := def_of hA20 y19
    have x20 := keep hA20 x19
    have f20_14 := sl_ne hA20 (by decide) f19_14
    have f20_15 := sl_same hA20 z19 (by decide)
    refine wpK_end (by kernel_rfl) ?_
    exact hQ _ w.heap.size _ z20 y20 (fun t ht => x20 t (fun h => ht (by simp only [List.mem_cons, List.not_mem_nil, or_false] at h; rcases h with rfl | rfl | rfl | rfl | rfl | rfl | rfl | rfl | rfl | rfl | rfl | rfl | rfl | rfl <;> decide))) f20_14 f20_15 hC3 (two_cells0 (by rw [k0]; rfl) (by rw [k1]; rfl)) (two_cells1 (by rw [k1]; rfl))

set_option maxHeartbeats 1600000 in
theorem reg12 {Q : Exit → Act → World → Prop} (a : Act) (w : World) (L : Nat) (i k p q u v r s e : Int) (hsz : a.tmps.size = 154)
    (e9 : sl a 9 = .slice (some ⟨L, 0, none⟩) 5 5) (e10 : sl a 10 = .int .i64 i) (e11 : sl a 11 = .int .i64 k) (hi : 0 ≤ i ∧ i < 5) (hk : 0 ≤ k ∧ k < 5)
    (c0 : w.cell? ⟨L, i.toNat * 2, none⟩ = some (.int .i64 p)) (c1 : w.cell? ⟨L, i.toNat * 2 + 1, none⟩ = some (.int .i64 q))
    (c2 : w.cell? ⟨L, k.toNat * 2, none⟩ = some (.int .i64 u)) (c3 : w.cell? ⟨L, k.toNat * 2 + 1, none⟩ = some (.int .i64 v))
    (hc : ∀ w, Calls Try.prog 13 #[.agg #[.int .i64 p, .int .i64 q], .agg #[.int .i64 u, .int .i64 v]] w fun en w' => en = .returned (.tuple #[.agg #[.int .i64 r, .int .i64 s], .int .i64 e]) ∧ Below w.heap.size w w')
    (hQ : ∀ A b w', A.tmps.size = 154 → A.defers = a.defers → (∀ t, t ∉ ([17, 16, 89, 88, 78, 87, 86, 85, 84, 83, 82, 81, 80, 79] : List Tmp) → sl A t = sl a t) → sl A 16 = .pointer (some ⟨b, 0, none⟩) → sl A 17 = .int .i64 e →
      Below w.heap.size w w' → w'.cell? ⟨b, 0, none⟩ = some (.int .i64 r) → w'.cell? ⟨b, 1, none⟩ = some (.int .i64 s) → Q .normal A w') :
    (Code.region 12 #[{ dst := some 79, op := Op.move (Operand.tmp 9), type := 26, pos := p42, after := #[], guard := none }, { dst := some 80, op := Op.move (Operand.tmp 10), type := 3, pos := p42, after := #[], guard := none }, { dst := some 81, op := Op.indexAddr 26 (Operand.tmp 79) (Operand.tmp 80), type := 0, pos := p42, after := #[{ on := 0, ground := Ground.data }, { on := 1, ground := Ground.data }], guard := none }, { dst := some 82, op := Op.load 24 (Operand.tmp 81), type := 24, pos := p42, after := #[{ on := 2, ground := Ground.data }], guard := none }, { dst := some 83, op := Op.move (Operand.tmp 9), type := 26, pos := p42, after := #[], guard := none }, { dst := some 84, op := Op.move (Operand.tmp 11), type := 3, pos := p42, after := #[], guard := none }, { dst := some 85, op := Op.indexAddr 26 (Operand.tmp 83) (Operand.tmp 84), type := 0, pos := p42, after := #[{ on := 4, ground := Ground.data }, { on := 5, ground := Ground.data }], guard := none }, { dst := some 86, op := Op.load 24 (Operand.tmp 85), type := 24, pos := p42, after := #[{ on := 6, ground := Ground.data }], guard := none }, { dst := some 87, op := Op.call { callee := Callee.value (Operand.func 13), args := #[Operand.tmp 82, Operand.tmp 86], argTypes := #[24, 24] }, type := 28, pos := p42, after := #[{ on := 3, ground := Ground.data }, { on := 7, ground := Ground.data }], guard := none }, { dst := some 78, op := Op.move (Operand.tmp 87), type := 28, pos := p42, after := #[{ on := 8, ground := Ground.data }], guard := none }, { dst := some 88, op := Op.extract (Operand.tmp 78) 0, type := 24, pos := p42, after := #[{ on := 9, ground := Ground.data }], guard := none }, { dst := some 89, op := Op.extract (Operand.tmp 78) 1, type := 27, pos := p42, after := #[{ on := 9, ground := Ground.data }, { on := 13, ground := Ground.gcOnly Departure.lateStores }], guard := none }, { dst := some 16, op := Op.alloc 24, type := 0, pos := p42, after := #[], guard := none }, { dst := none, op := Op.store 24 (Operand.tmp 16) (Operand.tmp 88), type := 0, pos := p42, after := #[{ on := 12, ground := Ground.data }, { on := 10, ground := Ground.data }, { on := 8, ground := Ground.chain }, { on := 0, ground := Ground.phase }, { on := 1, ground := Ground.phase }, { on := 2, ground := Ground.phase }, { on := 3, ground := Ground.phase }, { on := 4, ground := Ground.phase }, { on := 5, ground := Ground.phase }, { on := 6, ground := Ground.phase }, { on := 7, ground := Ground.phase }, { on := 8, ground := Ground.phase }, { on := 9, ground := Ground.phase }, { on := 10, ground := Ground.phase }, { on := 11, ground := Ground.textOnly Departure.lateStores }, { on := 12, ground := Ground.phase }], guard := none }, { dst := some 17, op := Op.assign (Operand.tmp 89), type := 27, pos := p42, after := #[{ on := 11, ground := Ground.data }, { on := 13, ground := Ground.chain }, { on := 0, ground := Ground.phase }, { on := 1, ground := Ground.phase }, { on := 2, ground := Ground.phase }, { on := 3, ground := Ground.phase }, { on := 4, ground := Ground.phase }, { on := 5, ground := Ground.phase }, { on := 6, ground := Ground.phase }, { on := 7, ground := Ground.phase }, { on := 8, ground := Ground.phase }, { on := 9, ground := Ground.phase }, { on := 10, ground := Ground.phase }, { on := 11, ground := Ground.phase }, { on := 12, ground := Ground.phase }, { on := 13, ground := Ground.phase }], guard := none }] true).wp Try.prog Q a w := by
  refine wp_region_K (fun w' => Below w.heap.size w w') (by kernel_rfl) ?_
  have hC : Below w.heap.size w w.drew := (Below.refl _ _).drew
  have x0 : ∀ t, t ∉ ([] : List Tmp) → sl a t = sl a t := fun _ _ => rfl
  have L1 : L < w.heap.size := World.block_lt_of_cell? _ _ c0
  have g0 : ∀ w', Below w.heap.size w w' → w'.cell? ⟨L, i.toNat * 2, none⟩ = some (.int .i64 p) := fun w' h => (h.cell L1).trans c0
  have g1 : ∀ w', Below w.heap.size w w' → w'.cell? ⟨L, i.toNat * 2 + 1, none⟩ = some (.int .i64 q) := fun w' h => (h.cell L1).trans c1
  have g2 : ∀ w', Below w.heap.size w w' → w'.cell? ⟨L, k.toNat * 2, none⟩ = some (.int .i64 u) := fun w' h => (h.cell L1).trans c2
  have g3 : ∀ w', Below w.heap.size w w' → w'.cell? ⟨L, k.toNat * 2 + 1, none⟩ = some (.int .i64 v) := fun w' h => (h.cell L1).trans c3
  refine wpK_take 0 _ (.slice (some ⟨L, 0, none⟩) 5 5) (by kernel_rfl) rfl hC (Same.wants rfl fun w' hw' => ex_move 9 rfl e9) ?_
  obtain ⟨A1, hA1⟩ : ∃ A, A = a.put (some 79) (.slice (some ⟨L, 0, none⟩) 5 5) := ⟨_, rfl⟩
  refine (show wpK _ _ _ _ _ _ _ (a.put (some 79) (.slice (some ⟨L, 0, none⟩) 5 5)) _ from ?_)
  rw [← hA1]
  have z1 := size_of hA1 hsz
  have y1 := def_of hA1 (rfl : a.defers = a.defers)
  have x1 := keep hA1 x0
  have f1_9 := sl_ne hA1 (by decide) e9
  have f1_10 := sl_ne hA1 (by decide) e10
  have f1_11 := sl_ne hA1 (by decide) e11
  have f1_79 := sl_same hA1 hsz (by decide)
  refine wpK_take 1 _ (.int .i64 i) (by kernel_rfl) rfl hC (Same.wants rfl fun w' hw' => ex_move 10 rfl f1_10) ?_
  obtain ⟨A2, hA2⟩ : ∃ A, A = A1.put (some 80) (.int .i64 i) := ⟨_, rfl⟩
  refine (show wpK _ _ _ _ _ _ _ (A1.put (some 80) (.int .i64 i)) _ from ?_)
  rw [← hA2]
  have z2 := size_of hA2 z1
  have y2 := def_of hA2 y1
  have x2 := keep hA2 x1
  have f2_9 := sl_ne hA2 (by decide) f1_9
  have f2_11 := sl_ne hA2 (by decide) f1_11
  have f2_79 := sl_ne hA2 (by decide) f1_79
  have f2_80 := sl_same hA2 z1 (by decide)
  refine wpK_take 2 _ (.pointer (some ⟨L, i.toNat * 2, none⟩)) (by kernel_rfl) rfl hC (Same.wants rfl fun w' hw' => ex_index 79 80 rfl f2_79 f2_80 hi) ?_
  obtain ⟨A3, hA3⟩ : ∃ A, A = A2.put (some 81) (.pointer (some ⟨L, i.toNat * 2, none⟩)) := ⟨_, rfl⟩
  refine (show wpK _ _ _ _ _ _ _ (A2.put (some 81) (.pointer (some ⟨L, i.toNat * 2, none⟩))) _ from ?_)
  rw [← hA3]
  have z3 := size_of hA3 z2
  have y3 := def_of hA3 y2
  have x3 := keep hA3 x2
  have f3_9 := sl_ne hA3 (by decide) f2_9
  have f3_11 := sl_ne hA3 (by decide) f2_11
  have f3_81 := sl_same hA3 z2 (by decide)
  refine wpK_take 3 _ (.agg #[.int .i64 p, .int .i64 q]) (by kernel_rfl) rfl hC (Same.wants rfl fun w' hw' => ex_load 81 rfl f3_81 (g0 w' hw') (g1 w' hw')) ?_
  obtain ⟨A4, hA4⟩ : ∃ A, A = A3.put (some 82) (.agg #[.int .i64 p, .int .i64 q]) := ⟨_, rfl⟩
  refine (show wpK _ _ _ _ _ _ _ (A3.put (some 82) (.agg #[.int .i64 p, .int .i64 q])) _ from ?_)
  rw [← hA4]
  have z4 := size_of hA4 z3
  have y4 := def_of hA4 y3
  have x4 := keep hA4 x3
  have f4_9 := sl_ne hA4 (by decide) f3_9
  have f4_11 := sl_ne hA4 (by decide) f3_11
  have f4_82 := sl_same hA4 z3 (by decide)
  refine wpK_take 4 _ (.slice (some ⟨L, 0, none⟩) 5 5) (by kernel_rfl) rfl hC (Same.wants rfl fun w' hw' => ex_move 9 rfl f4_9) ?_
  obtain ⟨A5, hA5⟩ : ∃ A, A = A4.put (some 83) (.slice (some ⟨L, 0, none⟩) 5 5) := ⟨_, rfl⟩
  refine (show wpK _ _ _ _ _ _ _ (A4.put (some 83) (.slice (some ⟨L, 0, none⟩) 5 5)) _ from ?_)
  rw [← hA5]
  have z5 := size_of hA5 z4
  have y5 := def_of hA5 y4
  have x5 := keep hA5 x4
  have f5_11 := sl_ne hA5 (by decide) f4_11
  have f5_82 := sl_ne hA5 (by decide) f4_82
  have f5_83 := sl_same hA5 z4 (by decide)
  refine wpK_take 5 _ (.int .i64 k) (by kernel_rfl) rfl hC (Same.wants rfl fun w' hw' => ex_move 11 rfl f5_11) ?_
  obtain ⟨A6, hA6⟩ : ∃ A, A = A5.put (some 84) (.int .i64 k) := ⟨_, rfl⟩
  refine (show wpK _ _ _ _ _ _ _ (A5.put (some 84) (.int .i64 k)) _ from ?_)
  rw [← hA6]
  have z6 := size_of hA6 z5
  have y6 := def_of hA6 y5
  have x6 := keep hA6 x5
  have f6_82 := sl_ne hA6 (by decide) f5_82
  have f6_83 := sl_ne hA6 (by decide) f5_83
  have f6_84 := sl_same hA6 z5 (by decide)
  refine wpK_take 6 _ (.pointer (some ⟨L, k.toNat * 2, none⟩)) (by kernel_rfl) rfl hC (Same.wants rfl fun w' hw' => ex_index 83 84 rfl f6_83 f6_84 hk) ?_
  obtain ⟨A7, hA7⟩ : ∃ A, A = A6.put (some 85) (.pointer (some ⟨L, k.toNat * 2, none⟩)) := ⟨_, rfl⟩
  refine (show wpK _ _ _ _ _ _ _ (A6.put (some 85) (.pointer (some ⟨L, k.toNat * 2, none⟩))) _ from ?_)
  rw [← hA7]
  have z7 := size_of hA7 z6
  have y7 := def_of hA7 y6
  have x7 := keep hA7 x6
  have f7_82 := sl_ne hA7 (by decide) f6_82
  have f7_85 := sl_same hA7 z6 (by decide)
  refine wpK_take 7 _ (.agg #[.int .i64 u, .int .i64 v]) (by kernel_rfl) rfl hC (Same.wants rfl fun w' hw' => ex_load 85 rfl f7_85 (g2 w' hw') (g3 w' hw')) ?_
  obtain ⟨A8, hA8⟩ : ∃ A, A = A7.put (some 86) (.agg #[.int .i64 u, .int .i64 v]) := ⟨_, rfl⟩
  refine (show wpK _ _ _ _ _ _ _ (A7.put (some 86) (.agg #[.int .i64 u, .int .i64 v])) _ from ?_)
  rw [← hA8]
  have z8 := size_of hA8 z7
  have y8 := def_of hA8 y7
  have x8 := keep hA8 x7
  have f8_82 := sl_ne hA8 (by decide) f7_82
  have f8_86 := sl_same hA8 z7 (by decide)
  refine wpK_two 8 12 _ _ (by kernel_rfl) rfl rfl rfl rfl ?_ ?_
  · refine ok_call2 13 82 86 rfl f8_82 f8_86 cf13 ((hc _).mono ?_)
    rintro en w1 ⟨rfl, hb⟩
    refine ⟨_, rfl, ?_⟩
    have hC1 : Below w.heap.size w w1 := hC.trans (hb.mono (Nat.le_refl _))
    refine ⟨hC1, ?_⟩
    obtain ⟨A9, hA9⟩ : ∃ A, A = A8.put (some 87) (.tuple #[.agg #[.int .i64 r, .int .i64 s], .int .i64 e]) := ⟨_, rfl⟩
    refine (show wpK _ _ _ _ _ _ _ (A8.put (some 87) (.tuple #[.agg #[.int .i64 r, .int .i64 s], .int .i64 e])) _ from ?_)
    rw [← hA9]
    have z9 := size_of hA9 z8
    have y9 := def_of hA9 y8
    have x9 := keep hA9 x8
    have f9_87 := sl_same hA9 z8 (by decide)
    refine wpK_take 9 _ (.tuple #[.agg #[.int .i64 r, .int .i64 s], .int .i64 e]) (by kernel_rfl) rfl hC1 (Same.wants rfl fun w' hw' => ex_move 87 rfl f9_87) ?_
    obtain ⟨A10, hA10⟩ : ∃ A, A = A9.put (some 78) (.tuple #[.agg #[.int .i64 r, .int .i64 s], .int .i64 e]) := ⟨_, rfl⟩
    refine (show wpK _ _ _ _ _ _ _ (A9.put (some 78) (.tuple #[.agg #[.int .i64 r, .int .i64 s], .int .i64 e])) _ from ?_)
    rw [← hA10]
    have z10 := size_of hA10 z9
    have y10 := def_of hA10 y9
    have x10 := keep hA10 x9
    have f10_78 := sl_same hA10 z9 (by decide)
    refine wpK_take 10 _ (.agg #[.int .i64 r, .int .i64 s]) (by kernel_rfl) rfl hC1 (Same.wants rfl fun w' hw' => ex_ext0 78 rfl f10_78) ?_
    obtain ⟨A11, hA11⟩ : ∃ A, A = A10.put (some 88) (.agg #[.int .i64 r, .int .i64 s]) := ⟨_, rfl⟩
    refine (show wpK _ _ _ _ _ _ _ (A10.put (some 88) (.agg #[.int .i64 r, .int .i64 s])) _ from ?_)
    rw [← hA11]
    have z11 := size_of hA11 z10
    have y11 := def_of hA11 y10
    have x11 := keep hA11 x10
    have f11_78 := sl_ne hA11 (by decide) f10_78
    have f11_88 := sl_same hA11 z10 (by decide)
    refine wpK_take 11 _ (.int .i64 e) (by kernel_rfl) rfl hC1 (Same.wants rfl fun w' hw' => ex_ext1 78 rfl f11_78) ?_
    obtain ⟨A12, hA12⟩ : ∃ A, A = A11.put (some 89) (.int .i64 e) := ⟨_, rfl⟩
    refine (show wpK _ _ _ _ _ _ _ (A11.put (some 89) (.int .i64 e)) _ from ?_)
    rw [← hA12]
    have z12 := size_of hA12 z11
    have y12 := def_of hA12 y11
    have x12 := keep hA12 x11
    have f12_88 := sl_ne hA12 (by decide) f11_88
    have f12_89 := sl_same hA12 z11 (by decide)
    refine wpK_one 12 _ (by kernel_rfl) rfl rfl (ok_alloc rfl ?_)
    have hC2 : Below w.heap.size w (w1.alloc (V 0 0)) := hC1.alloc hC1.size _
    refine ⟨hC2, ?_⟩
    obtain ⟨A13, hA13⟩ : ∃ A, A = A12.put (some 16) (.pointer (some ⟨w1.heap.size, 0, none⟩)) := ⟨_, rfl⟩
    refine (show wpK _ _ _ _ _ _ _ (A12.put (some 16) (.pointer (some ⟨w1.heap.size, 0, none⟩))) _ from ?_)
    rw [← hA13]
    have z13 := size_of hA13 z12
    have y13 := def_of hA13 y12
    have x13 := keep hA13 x12
    have f13_88 := sl_ne hA13 (by decide) f12_88
    have f13_89 := sl_ne hA13 (by decide) f12_89
    have f13_16 := sl_same hA13 z12 (by decide)
    have hB : w.heap.size ≤ w1.heap.size := hC1.size
    refine wpK_one 13 _ (by kernel_rfl) rfl rfl (ok_store 16 88 (p := 0) (q := 0) rfl f13_16 f13_88 (by simp) (by simp) (by simp) (by simp) ?_)
    have hC3 : Below w.heap.size w (((w1.alloc (V 0 0)).setCell ⟨w1.heap.size, 0, none⟩ (.int .i64 r)).setCell ⟨w1.heap.size, 1, none⟩ (.int .i64 s)) := (hC2.setCell hB _).setCell hB _
    refine ⟨hC3, ?_⟩
    refine (show wpK _ _ _ _ _ _ _ A13 _ from ?_)
    refine wpK_take 14 _ (.int .i64 e) (by kernel_rfl) rfl hC3 (Same.wants rfl fun w' hw' => ex_assign 89 rfl f13_89) ?_
    obtain ⟨A14, hA14⟩ : ∃ A, A = A13.put (some 17) (.int .i64 e) := ⟨_, rfl⟩
    refine (show wpK _ _ _ _ _ _ _ (A13.put (some 17) (.int .i64 e)) _ from ?_)
    rw [← hA14]
    have z14 := size_of hA14 z13
    have y14 := def_of hA14 y13
    have x14 := keep hA14 x13
    have f14_16 := sl_ne hA14 (by decide) f13_16
    have f14_17 := sl_same hA14 z13 (by decide)
    refine wpK_end (by kernel_rfl) ?_
    exact hQ _ w1.heap.size _ z14 y14 x14 f14_16 f14_17 hC3 (two_cells0 (by simp) (by simp)) (two_cells1 (by simp))
  · refine ok_alloc rfl ?_
    have hC1 : Below w.heap.size w (w.drew.alloc (V 0 0)) := hC.alloc (Nat.le_refl _) _
    refine ⟨hC1, ?_⟩
    obtain ⟨A15, hA15⟩ : ∃ A, A = A8.put (some 16) (.pointer (some ⟨w.heap.size, 0, none⟩)) := ⟨_, rfl⟩
    refine (show wpK _ _ _ _ _ _ _ (A8.put (some 16) (.pointer (some ⟨w.heap.size, 0, none⟩))) _ from ?_)
    rw [← hA15]
    have z15 := size_of hA15 z8
    have y15 := def_of hA15 y8
    have x15 := keep hA15 x8
    have f15_82 := sl_ne hA15 (by decide) f8_82
    have f15_86 := sl_ne hA15 (by decide) f8_86
    have f15_16 := sl_same hA15 z8 (by decide)
    refine wpK_one 8 _ (by kernel_rfl) rfl rfl (ok_call2 13 82 86 rfl f15_82 f15_86 cf13 ((hc _).mono ?_))
    rintro en w1 ⟨rfl, hb⟩
    refine ⟨_, rfl, ?_⟩
    have hC2 : Below w.heap.size w w1 := hC1.trans (hb.mono (by simp))
    refine ⟨hC2, ?_⟩
    obtain ⟨A16, hA16⟩ : ∃ A, A = A15.put (some 87) (.tuple #[.agg #[.int .i64 r, .int .i64 s], .int .i64 e]) := ⟨_, rfl⟩
    refine (show wpK _ _ _ _ _ _ _ (A15.put (some 87) (.tuple #[.agg #[.int .i64 r, .int .i64 s], .int .i64 e])) _ from ?_)
    rw [← hA16]
    have z16 := size_of hA16 z15
    have y16 := def_of hA16 y15
    have x16 := keep hA16 x15
    have f16_16 := sl_ne hA16 (by decide) f15_16
    have f16_87 := sl_same hA16 z15 (by decide)
    refine wpK_take 9 _ (.tuple #[.agg #[.int .i64 r, .int .i64 s], .int .i64 e]) (by kernel_rfl) rfl hC2 (Same.wants rfl fun w' hw' => ex_move 87 rfl f16_87) ?_
    obtain ⟨A17, hA17⟩ : ∃ A, A = A16.put (some 78) (.tuple #[.agg #[.int .i64 r, .int .i64 s], .int .i64 e]) := ⟨_, rfl⟩
    refine (show wpK _ _ _ _ _ _ _ (A16.put (some 78) (.tuple #[.agg #[.int .i64 r, .int .i64 s], .int .i64 e])) _ from ?_)
    rw [← hA17]
    have z17 := size_of hA17 z16
    have y17 := def_of hA17 y16
    have x17 := keep hA17 x16
    have f17_16 := sl_ne hA17 (by decide) f16_16
    have f17_78 := sl_same hA17 z16 (by decide)
    refine wpK_take 10 _ (.agg #[.int .i64 r, .int .i64 s]) (by kernel_rfl) rfl hC2 (Same.wants rfl fun w' hw' => ex_ext0 78 rfl f17_78) ?_
    obtain ⟨A18, hA18⟩ : ∃ A, A = A17.put (some 88) (.agg #[.int .i64 r, .int .i64 s]) := ⟨_, rfl⟩
    refine (show wpK _ _ _ _ _ _ _ (A17.put (some 88) (.agg #[.int .i64 r, .int .i64 s])) _ from ?_)
    rw [← hA18]
    have z18 := size_of hA18 z17
    have y18 := def_of hA18 y17
    have x18 := keep hA18 x17
    have f18_16 := sl_ne hA18 (by decide) f17_16
    have f18_78 := sl_ne hA18 (by decide) f17_78
    have f18_88 := sl_same hA18 z17 (by decide)
    refine wpK_take 11 _ (.int .i64 e) (by kernel_rfl) rfl hC2 (Same.wants rfl fun w' hw' => ex_ext1 78 rfl f18_78) ?_
    obtain ⟨A19, hA19⟩ : ∃ A, A = A18.put (some 89) (.int .i64 e) := ⟨_, rfl⟩
    refine (show wpK _ _ _ _ _ _ _ (A18.put (some 89) (.int .i64 e)) _ from ?_)
    rw [← hA19]
    have z19 := size_of hA19 z18
    have y19 := def_of hA19 y18
    have x19 := keep hA19 x18
    have f19_16 := sl_ne hA19 (by decide) f18_16
    have f19_88 := sl_ne hA19 (by decide) f18_88
    have f19_89 := sl_same hA19 z18 (by decide)
    have hB : w.heap.size ≤ w.heap.size := Nat.le_refl _
    have k0 : w1.cell? ⟨w.heap.size, 0, none⟩ = some (.int .i64 0) := cell_later hb (by go_simp)
    have k1 : w1.cell? ⟨w.heap.size, 1, none⟩ = some (.int .i64 0) := cell_later hb (by go_simp)
    have k2 : w1.frozen? ⟨w.heap.size, 0, none⟩ = false := (hb.frozen (by go_simp)).trans (by go_simp)
    have k3 : w1.frozen? ⟨w.heap.size, 1, none⟩ = false := (hb.frozen (by go_simp)).trans (by go_simp)
    refine wpK_one 13 _ (by kernel_rfl) rfl rfl (ok_store 16 88 (p := 0) (q := 0) rfl f19_16 f19_88 k0 k1 k2 k3 ?_)
    have hC3 : Below w.heap.size w (((w1).setCell ⟨w.heap.size, 0, none⟩ (.int .i64 r)).setCell ⟨w.heap.size, 1, none⟩ (.int .i64 s)) := (hC2.setCell hB _).setCell hB _
    refine ⟨hC3, ?_⟩
    refine (show wpK _ _ _ _ _ _ _ A19 _ from ?_)
    refine wpK_take 14 _ (.int .i64 e) (by kernel_rfl) rfl hC3 (Same.wants rfl fun w' hw' => ex_assign 89 rfl f19_89) ?_
    obtain ⟨A20, hA20⟩ : ∃ A, A = A19.put (some 17) (.int .i64 e) := ⟨_, rfl⟩
    refine (show wpK _ _ _ _ _ _ _ (A19.put (some 17) (.int .i64 e)) _ from ?_)
    rw [← hA20]
    have z20 := size_of hA20 z19
    have y20 := def_of hA20 y19
    have x20 := keep hA20 x19
    have f20_16 := sl_ne hA20 (by decide) f19_16
    have f20_17 := sl_same hA20 z19 (by decide)
    refine wpK_end (by kernel_rfl) ?_
    exact hQ _ w.heap.size _ z20 y20 (fun t ht => x20 t (fun h => ht (by simp only [List.mem_cons, List.not_mem_nil, or_false] at h; rcases h with rfl | rfl | rfl | rfl | rfl | rfl | rfl | rfl | rfl | rfl | rfl | rfl | rfl | rfl <;> decide))) f20_16 f20_17 hC3 (two_cells0 (by rw [k0]; rfl) (by rw [k1]; rfl)) (two_cells1 (by rw [k1]; rfl))

set_option maxHeartbeats 1600000 in
theorem reg13 {Q : Exit → Act → World → Prop} (a : Act) (w : World) (L : Nat) (i k p q u v r s e : Int) (hsz : a.tmps.size = 154)
    (e9 : sl a 9 = .slice (some ⟨L, 0, none⟩) 5 5) (e10 : sl a 10 = .int .i64 i) (e11 : sl a 11 = .int .i64 k) (hi : 0 ≤ i ∧ i < 5) (hk : 0 ≤ k ∧ k < 5)
    (c0 : w.cell? ⟨L, i.toNat * 2, none⟩ = some (.int .i64 p)) (c1 : w.cell? ⟨L, i.toNat * 2 + 1, none⟩ = some (.int .i64 q))
    (c2 : w.cell? ⟨L, k.toNat * 2, none⟩ = some (.int .i64 u)) (c3 : w.cell? ⟨L, k.toNat * 2 + 1, none⟩ = some (.int .i64 v))
    (hc : ∀ w, Calls Try.prog 14 #[.agg #[.int .i64 p, .int .i64 q], .agg #[.int .i64 u, .int .i64 v]] w fun en w' => en = .returned (.tuple #[.agg #[.int .i64 r, .int .i64 s], .int .i64 e]) ∧ Below w.heap.size w w')
    (hQ : ∀ A b w', A.tmps.size = 154 → A.defers = a.defers → (∀ t, t ∉ ([19, 18, 101, 100, 90, 99, 98, 97, 96, 95, 94, 93, 92, 91] : List Tmp) → sl A t = sl a t) → sl A 18 = .pointer (some ⟨b, 0, none⟩) → sl A 19 = .int .i64 e →
      Below w.heap.size w w' → w'.cell? ⟨b, 0, none⟩ = some (.int .i64 r) → w'.cell? ⟨b, 1, none⟩ = some (.int .i64 s) → Q .normal A w') :
    (Code.region 13 #[{ dst := some 91, op := Op.move (Operand.tmp 9), type := 26, pos := p43, after := #[], guard := none }, { dst := some 92, op := Op.move (Operand.tmp 10), type := 3, pos := p43, after := #[], guard := none }, { dst := some 93, op := Op.indexAddr 26 (Operand.tmp 91) (Operand.tmp 92), type := 0, pos := p43, after := #[{ on := 0, ground := Ground.data }, { on := 1, ground := Ground.data }], guard := none }, { dst := some 94, op := Op.load 24 (Operand.tmp 93), type := 24, pos := p43, after := #[{ on := 2, ground := Ground.data }], guard := none }, { dst := some 95, op := Op.move (Operand.tmp 9), type := 26, pos := p43, after := #[], guard := none }, { dst := some 96, op := Op.move (Operand.tmp 11), type := 3, pos := p43, after := #[], guard := none }, { dst := some 97, op := Op.indexAddr 26 (Operand.tmp 95) (Operand.tmp 96), type := 0, pos := p43, after := #[{ on := 4, ground := Ground.data }, { on := 5, ground := Ground.data }], guard := none }, { dst := some 98, op := Op.load 24 (Operand.tmp 97), type := 24, pos := p43, after := #[{ on := 6, ground := Ground.data }], guard := none }, { dst := some 99, op := Op.call { callee := Callee.value (Operand.func 14), args := #[Operand.tmp 94, Operand.tmp 98], argTypes := #[24, 24] }, type := 30, pos := p43, after := #[{ on := 3, ground := Ground.data }, { on := 7, ground := Ground.data }], guard := none }, { dst := some 90, op := Op.move (Operand.tmp 99), type := 30, pos := p43, after := #[{ on := 8, ground := Ground.data }], guard := none }, { dst := some 100, op := Op.extract (Operand.tmp 90) 0, type := 24, pos := p43, after := #[{ on := 9, ground := Ground.data }], guard := none }, { dst := some 101, op := Op.extract (Operand.tmp 90) 1, type := 3, pos := p43, after := #[{ on := 9, ground := Ground.data }, { on := 13, ground := Ground.gcOnly Departure.lateStores }], guard := none }, { dst := some 18, op := Op.alloc 24, type := 0, pos := p43, after := #[], guard := none }, { dst := none, op := Op.store 24 (Operand.tmp 18) (Operand.tmp 100), type := 0, pos := p43, after := #[{ on := 12, ground := Ground.data }, { on := 10, ground := Ground.data }, { on := 8, ground := Ground.chain }, { on := 0, ground := Ground.phase }, { on := 1, ground := Ground.phase }, { on := 2, ground := Ground.phase }, { on := 3, ground := Ground.phase }, { on := 4, ground := Ground.phase }, { on := 5, ground := Ground.phase }, { on := 6, ground := Ground.phase }, { on := 7, ground := Ground.phase }, { on := 8, ground := Ground.phase }, { on := 9, ground := Ground.phase }, { on := 10, ground := Ground.phase }, { on := 11, ground := Ground.textOnly Departure.lateStores }, { on := 12, ground := Ground.phase }], guard := none }, { dst := some 19, op := Op.assign (Operand.tmp 101), type := 3, pos := p43, after := #[{ on := 11, ground := Ground.data }, { on := 13, ground := Ground.chain }, { on := 0, ground := Ground.phase }, { on := 1, ground := Ground.phase }, { on := 2, ground := Ground.phase }, { on := 3, ground := Ground.phase }, { on := 4, ground := Ground.phase }, { on := 5, ground := Ground.phase }, { on := 6, ground := Ground.phase }, { on := 7, ground := Ground.phase }, { on := 8, ground := Ground.phase }, { on := 9, ground := Ground.phase }, { on := 10, ground := Ground.phase }, { on := 11, ground := Ground.phase }, { on := 12, ground := Ground.phase }, { on := 13, ground := Ground.phase }], guard := none }] true).wp Try.prog Q a w := by
  refine wp_region_K (fun w' => Below w.heap.size w w') (by kernel_rfl) ?_
  have hC : Below w.heap.size w w.drew := (Below.refl _ _).drew
  have x0 : ∀ t, t ∉ ([] : List Tmp) → sl a t = sl a t := fun _ _ => rfl
  have L1 : L < w.heap.size := World.block_lt_of_cell? _ _ c0
  have g0 : ∀ w', Below w.heap.size w w' → w'.cell? ⟨L, i.toNat * 2, none⟩ = some (.int .i64 p) := fun w' h => (h.cell L1).trans c0
  have g1 : ∀ w', Below w.heap.size w w' → w'.cell? ⟨L, i.toNat * 2 + 1, none⟩ = some (.int .i64 q) := fun w' h => (h.cell L1).trans c1
  have g2 : ∀ w', Below w.heap.size w w' → w'.cell? ⟨L, k.toNat * 2, none⟩ = some (.int .i64 u) := fun w' h => (h.cell L1).trans c2
  have g3 : ∀ w', Below w.heap.size w w' → w'.cell? ⟨L, k.toNat * 2 + 1, none⟩ = some (.int .i64 v) := fun w' h => (h.cell L1).trans c3
  refine wpK_take 0 _ (.slice (some ⟨L, 0, none⟩) 5 5) (by kernel_rfl) rfl hC (Same.wants rfl fun w' hw' => ex_move 9 rfl e9) ?_
  obtain ⟨A1, hA1⟩ : ∃ A, A = a.put (some 91) (.slice (some ⟨L, 0, none⟩) 5 5) := ⟨_, rfl⟩
  refine (show wpK _ _ _ _ _ _ _ (a.put (some 91) (.slice (some ⟨L, 0, none⟩) 5 5)) _ from ?_)
  rw [← hA1]
  have z1 := size_of hA1 hsz
  have y1 := def_of hA1 (rfl : a.defers = a.defers)
  have x1 := keep hA1 x0
  have f1_9 := sl_ne hA1 (by decide) e9
  have f1_10 := sl_ne hA1 (by decide) e10
  have f1_11 := sl_ne hA1 (by decide) e11
  have f1_91 := sl_same hA1 hsz (by decide)
  refine wpK_take 1 _ (.int .i64 i) (by kernel_rfl) rfl hC (Same.wants rfl fun w' hw' => ex_move 10 rfl f1_10) ?_
  obtain ⟨A2, hA2⟩ : ∃ A, A = A1.put (some 92) (.int .i64 i) := ⟨_, rfl⟩
  refine (show wpK _ _ _ _ _ _ _ (A1.put (some 92) (.int .i64 i)) _ from ?_)
  rw [← hA2]
  have z2 := size_of hA2 z1
  have y2 := def_of hA2 y1
  have x2 := keep hA2 x1
  have f2_9 := sl_ne hA2 (by decide) f1_9
  have f2_11 := sl_ne hA2 (by decide) f1_11
  have f2_91 := sl_ne hA2 (by decide) f1_91
  have f2_92 := sl_same hA2 z1 (by decide)
  refine wpK_take 2 _ (.pointer (some ⟨L, i.toNat * 2, none⟩)) (by kernel_rfl) rfl hC (Same.wants rfl fun w' hw' => ex_index 91 92 rfl f2_91 f2_92 hi) ?_
  obtain ⟨A3, hA3⟩ : ∃ A, A = A2.put (some 93) (.pointer (some ⟨L, i.toNat * 2, none⟩)) := ⟨_, rfl⟩
  refine (show wpK _ _ _ _ _ _ _ (A2.put (some 93) (.pointer (some ⟨L, i.toNat * 2, none⟩))) _ from ?_)
  rw [← hA3]
  have z3 := size_of hA3 z2
  have y3 := def_of hA3 y2
  have x3 := keep hA3 x2
  have f3_9 := sl_ne hA3 (by decide) f2_9
  have f3_11 := sl_ne hA3 (by decide) f2_11
  have f3_93 := sl_same hA3 z2 (by decide)
  refine wpK_take 3 _ (.agg #[.int .i64 p, .int .i64 q]) (by kernel_rfl) rfl hC (Same.wants rfl fun w' hw' => ex_load 93 rfl f3_93 (g0 w' hw') (g1 w' hw')) ?_
  obtain ⟨A4, hA4⟩ : ∃ A, A = A3.put (some 94) (.agg #[.int .i64 p, .int .i64 q]) := ⟨_, rfl⟩
  refine (show wpK _ _ _ _ _ _ _ (A3.put (some 94) (.agg #[.int .i64 p, .int .i64 q])) _ from ?_)
  rw [← hA4]
  have z4 := size_of hA4 z3
  have y4 := def_of hA4 y3
  have x4 := keep hA4 x3
  have f4_9 := sl_ne hA4 (by decide) f3_9
  have f4_11 := sl_ne hA4 (by decide) f3_11
  have f4_94 := sl_same hA4 z3 (by decide)
  refine wpK_take 4 _ (.slice (some ⟨L, 0, none⟩) 5 5) (by kernel_rfl) rfl hC (Same.wants rfl fun w' hw' => ex_move 9 rfl f4_9) ?_
  obtain ⟨A5, hA5⟩ : ∃ A, A = A4.put (some 95) (.slice (some ⟨L, 0, none⟩) 5 5) := ⟨_, rfl⟩
  refine (show wpK _ _ _ _ _ _ _ (A4.put (some 95) (.slice (some ⟨L, 0, none⟩) 5 5)) _ from ?_)
  rw [← hA5]
  have z5 := size_of hA5 z4
  have y5 := def_of hA5 y4
  have x5 := keep hA5 x4
  have f5_11 := sl_ne hA5 (by decide) f4_11
  have f5_94 := sl_ne hA5 (by decide) f4_94
  have f5_95 := sl_same hA5 z4 (by decide)
  refine wpK_take 5 _ (.int .i64 k) (by kernel_rfl) rfl hC (Same.wants rfl fun w' hw' => ex_move 11 rfl f5_11) ?_
  obtain ⟨A6, hA6⟩ : ∃ A, A = A5.put (some 96) (.int .i64 k) := ⟨_, rfl⟩
  refine (show wpK _ _ _ _ _ _ _ (A5.put (some 96) (.int .i64 k)) _ from ?_)
  rw [← hA6]
  have z6 := size_of hA6 z5
  have y6 := def_of hA6 y5
  have x6 := keep hA6 x5
  have f6_94 := sl_ne hA6 (by decide) f5_94
  have f6_95 := sl_ne hA6 (by decide) f5_95
  have f6_96 := sl_same hA6 z5 (by decide)
  refine wpK_take 6 _ (.pointer (some ⟨L, k.toNat * 2, none⟩)) (by kernel_rfl) rfl hC (Same.wants rfl fun w' hw' => ex_index 95 96 rfl f6_95 f6_96 hk) ?_
  obtain ⟨A7, hA7⟩ : ∃ A, A = A6.put (some 97) (.pointer (some ⟨L, k.toNat * 2, none⟩)) := ⟨_, rfl⟩
  refine (show wpK _ _ _ _ _ _ _ (A6.put (some 97) (.pointer (some ⟨L, k.toNat * 2, none⟩))) _ from ?_)
  rw [← hA7]
  have z7 := size_of hA7 z6
  have y7 := def_of hA7 y6
  have x7 := keep hA7 x6
  have f7_94 := sl_ne hA7 (by decide) f6_94
  have f7_97 := sl_same hA7 z6 (by decide)
  refine wpK_take 7 _ (.agg #[.int .i64 u, .int .i64 v]) (by kernel_rfl) rfl hC (Same.wants rfl fun w' hw' => ex_load 97 rfl f7_97 (g2 w' hw') (g3 w' hw')) ?_
  obtain ⟨A8, hA8⟩ : ∃ A, A = A7.put (some 98) (.agg #[.int .i64 u, .int .i64 v]) := ⟨_, rfl⟩
  refine (show wpK _ _ _ _ _ _ _ (A7.put (some 98) (.agg #[.int .i64 u, .int .i64 v])) _ from ?_)
  rw [← hA8]
  have z8 := size_of hA8 z7
  have y8 := def_of hA8 y7
  have x8 := keep hA8 x7
  have f8_94 := sl_ne hA8 (by decide) f7_94
  have f8_98 := sl_same hA8 z7 (by decide)
  refine wpK_two 8 12 _ _ (by kernel_rfl) rfl rfl rfl rfl ?_ ?_
  · refine ok_call2 14 94 98 rfl f8_94 f8_98 cf14 ((hc _).mono ?_)
    rintro en w1 ⟨rfl, hb⟩
    refine ⟨_, rfl, ?_⟩
    have hC1 : Below w.heap.size w w1 := hC.trans (hb.mono (Nat.le_refl _))
    refine ⟨hC1, ?_⟩
    obtain ⟨A9, hA9⟩ : ∃ A, A = A8.put (some 99) (.tuple #[.agg #[.int .i64 r, .int .i64 s], .int .i64 e]) := ⟨_, rfl⟩
    refine (show wpK _ _ _ _ _ _ _ (A8.put (some 99) (.tuple #[.agg #[.int .i64 r, .int .i64 s], .int .i64 e])) _ from ?_)
    rw [← hA9]
    have z9 := size_of hA9 z8
    have y9 := def_of hA9 y8
    have x9 := keep hA9 x8
    have f9_99 := sl_same hA9 z8 (by decide)
    refine wpK_take 9 _ (.tuple #[.agg #[.int .i64 r, .int .i64 s], .int .i64 e]) (by kernel_rfl) rfl hC1 (Same.wants rfl fun w' hw' => ex_move 99 rfl f9_99) ?_
    obtain ⟨A10, hA10⟩ : ∃ A, A = A9.put (some 90) (.tuple #[.agg #[.int .i64 r, .int .i64 s], .int .i64 e]) := ⟨_, rfl⟩
    refine (show wpK _ _ _ _ _ _ _ (A9.put (some 90) (.tuple #[.agg #[.int .i64 r, .int .i64 s], .int .i64 e])) _ from ?_)
    rw [← hA10]
    have z10 := size_of hA10 z9
    have y10 := def_of hA10 y9
    have x10 := keep hA10 x9
    have f10_90 := sl_same hA10 z9 (by decide)
    refine wpK_take 10 _ (.agg #[.int .i64 r, .int .i64 s]) (by kernel_rfl) rfl hC1 (Same.wants rfl fun w' hw' => ex_ext0 90 rfl f10_90) ?_
    obtain ⟨A11, hA11⟩ : ∃ A, A = A10.put (some 100) (.agg #[.int .i64 r, .int .i64 s]) := ⟨_, rfl⟩
    refine (show wpK _ _ _ _ _ _ _ (A10.put (some 100) (.agg #[.int .i64 r, .int .i64 s])) _ from ?_)
    rw [← hA11]
    have z11 := size_of hA11 z10
    have y11 := def_of hA11 y10
    have x11 := keep hA11 x10
    have f11_90 := sl_ne hA11 (by decide) f10_90
    have f11_100 := sl_same hA11 z10 (by decide)
    refine wpK_take 11 _ (.int .i64 e) (by kernel_rfl) rfl hC1 (Same.wants rfl fun w' hw' => ex_ext1 90 rfl f11_90) ?_
    obtain ⟨A12, hA12⟩ : ∃ A, A = A11.put (some 101) (.int .i64 e) := ⟨_, rfl⟩
    refine (show wpK _ _ _ _ _ _ _ (A11.put (some 101) (.int .i64 e)) _ from ?_)
    rw [← hA12]
    have z12 := size_of hA12 z11
    have y12 := def_of hA12 y11
    have x12 := keep hA12 x11
    have f12_100 := sl_ne hA12 (by decide) f11_100
    have f12_101 := sl_same hA12 z11 (by decide)
    refine wpK_one 12 _ (by kernel_rfl) rfl rfl (ok_alloc rfl ?_)
    have hC2 : Below w.heap.size w (w1.alloc (V 0 0)) := hC1.alloc hC1.size _
    refine ⟨hC2, ?_⟩
    obtain ⟨A13, hA13⟩ : ∃ A, A = A12.put (some 18) (.pointer (some ⟨w1.heap.size, 0, none⟩)) := ⟨_, rfl⟩
    refine (show wpK _ _ _ _ _ _ _ (A12.put (some 18) (.pointer (some ⟨w1.heap.size, 0, none⟩))) _ from ?_)
    rw [← hA13]
    have z13 := size_of hA13 z12
    have y13 := def_of hA13 y12
    have x13 := keep hA13 x12
    have f13_100 := sl_ne hA13 (by decide) f12_100
    have f13_101 := sl_ne hA13 (by decide) f12_101
    have f13_18 := sl_same hA13 z12 (by decide)
    have hB : w.heap.size ≤ w1.heap.size := hC1.size
    refine wpK_one 13 _ (by kernel_rfl) rfl rfl (ok_store 18 100 (p := 0) (q := 0) rfl f13_18 f13_100 (by simp) (by simp) (by simp) (by simp) ?_)
    have hC3 : Below w.heap.size w (((w1.alloc (V 0 0)).setCell ⟨w1.heap.size, 0, none⟩ (.int .i64 r)).setCell ⟨w1.heap.size, 1, none⟩ (.int .i64 s)) := (hC2.setCell hB _).setCell hB _
    refine ⟨hC3, ?_⟩
    refine (show wpK _ _ _ _ _ _ _ A13 _ from ?_)
    refine wpK_take 14 _ (.int .i64 e) (by kernel_rfl) rfl hC3 (Same.wants rfl fun w' hw' => ex_assign 101 rfl f13_101) ?_
    obtain ⟨A14, hA14⟩ : ∃ A, A = A13.put (some 19) (.int .i64 e) := ⟨_, rfl⟩
    refine (show wpK _ _ _ _ _ _ _ (A13.put (some 19) (.int .i64 e)) _ from ?_)
    rw [← hA14]
    have z14 := size_of hA14 z13
    have y14 := def_of hA14 y13
    have x14 := keep hA14 x13
    have f14_18 := sl_ne hA14 (by decide) f13_18
    have f14_19 := sl_same hA14 z13 (by decide)
    refine wpK_end (by kernel_rfl) ?_
    exact hQ _ w1.heap.size _ z14 y14 x14 f14_18 f14_19 hC3 (two_cells0 (by simp) (by simp)) (two_cells1 (by simp))
  · refine ok_alloc rfl ?_
    have hC1 : Below w.heap.size w (w.drew.alloc (V 0 0)) := hC.alloc (Nat.le_refl _) _
    refine ⟨hC1, ?_⟩
    obtain ⟨A15, hA15⟩ : ∃ A, A = A8.put (some 18) (.pointer (some ⟨w.heap.size, 0, none⟩)) := ⟨_, rfl⟩
    refine (show wpK _ _ _ _ _ _ _ (A8.put (some 18) (.pointer (some ⟨w.heap.size, 0, none⟩))) _ from ?_)
    rw [← hA15]
    have z15 := size_of hA15 z8
    have y15 := def_of hA15 y8
    have x15 := keep hA15 x8
    have f15_94 := sl_ne hA15 (by decide) f8_94
    have f15_98 := sl_ne hA15 (by decide) f8_98
    have f15_18 := sl_same hA15 z8 (by decide)
    refine wpK_one 8 _ (by kernel_rfl) rfl rfl (ok_call2 14 94 98 rfl f15_94 f15_98 cf14 ((hc _).mono ?_))
    rintro en w1 ⟨rfl, hb⟩
    refine ⟨_, rfl, ?_⟩
    have hC2 : Below w.heap.size w w1 := hC1.trans (hb.mono (by simp))
    refine ⟨hC2, ?_⟩
    obtain ⟨A16, hA16⟩ : ∃ A, A = A15.put (some 99) (.tuple #[.agg #[.int .i64 r, .int .i64 s], .int .i64 e]) := ⟨_, rfl⟩
    refine (show wpK _ _ _ _ _ _ _ (A15.put (some 99) (.tuple #[.agg #[.int .i64 r, .int .i64 s], .int .i64 e])) _ from ?_)
    rw [← hA16]
    have z16 := size_of hA16 z15
    have y16 := def_of hA16 y15
    have x16 := keep hA16 x15
    have f16_18 := sl_ne hA16 (by decide) f15_18
    have f16_99 := sl_same hA16 z15 (by decide)
    refine wpK_take 9 _ (.tuple #[.agg #[.int .i64 r, .int .i64 s], .int .i64 e]) (by kernel_rfl) rfl hC2 (Same.wants rfl fun w' hw' => ex_move 99 rfl f16_99) ?_
    obtain ⟨A17, hA17⟩ : ∃ A, A = A16.put (some 90) (.tuple #[.agg #[.int .i64 r, .int .i64 s], .int .i64 e]) := ⟨_, rfl⟩
    refine (show wpK _ _ _ _ _ _ _ (A16.put (some 90) (.tuple #[.agg #[.int .i64 r, .int .i64 s], .int .i64 e])) _ from ?_)
    rw [← hA17]
    have z17 := size_of hA17 z16
    have y17 := def_of hA17 y16
    have x17 := keep hA17 x16
    have f17_18 := sl_ne hA17 (by decide) f16_18
    have f17_90 := sl_same hA17 z16 (by decide)
    refine wpK_take 10 _ (.agg #[.int .i64 r, .int .i64 s]) (by kernel_rfl) rfl hC2 (Same.wants rfl fun w' hw' => ex_ext0 90 rfl f17_90) ?_
    obtain ⟨A18, hA18⟩ : ∃ A, A = A17.put (some 100) (.agg #[.int .i64 r, .int .i64 s]) := ⟨_, rfl⟩
    refine (show wpK _ _ _ _ _ _ _ (A17.put (some 100) (.agg #[.int .i64 r, .int .i64 s])) _ from ?_)
    rw [← hA18]
    have z18 := size_of hA18 z17
    have y18 := def_of hA18 y17
    have x18 := keep hA18 x17
    have f18_18 := sl_ne hA18 (by decide) f17_18
    have f18_90 := sl_ne hA18 (by decide) f17_90
    have f18_100 := sl_same hA18 z17 (by decide)
    refine wpK_take 11 _ (.int .i64 e) (by kernel_rfl) rfl hC2 (Same.wants rfl fun w' hw' => ex_ext1 90 rfl f18_90) ?_
    obtain ⟨A19, hA19⟩ : ∃ A, A = A18.put (some 101) (.int .i64 e) := ⟨_, rfl⟩
    refine (show wpK _ _ _ _ _ _ _ (A18.put (some 101) (.int .i64 e)) _ from ?_)
    rw [← hA19]
    have z19 := size_of hA19 z18
    have y19 := def_of hA19 y18
    have x19 := keep hA19 x18
    have f19_18 := sl_ne hA19 (by decide) f18_18
    have f19_100 := sl_ne hA19 (by decide) f18_100
    have f19_101 := sl_same hA19 z18 (by decide)
    have hB : w.heap.size ≤ w.heap.size := Nat.le_refl _
    have k0 : w1.cell? ⟨w.heap.size, 0, none⟩ = some (.int .i64 0) := cell_later hb (by go_simp)
    have k1 : w1.cell? ⟨w.heap.size, 1, none⟩ = some (.int .i64 0) := cell_later hb (by go_simp)
    have k2 : w1.frozen? ⟨w.heap.size, 0, none⟩ = false := (hb.frozen (by go_simp)).trans (by go_simp)
    have k3 : w1.frozen? ⟨w.heap.size, 1, none⟩ = false := (hb.frozen (by go_simp)).trans (by go_simp)
    refine wpK_one 13 _ (by kernel_rfl) rfl rfl (ok_store 18 100 (p := 0) (q := 0) rfl f19_18 f19_100 k0 k1 k2 k3 ?_)
    have hC3 : Below w.heap.size w (((w1).setCell ⟨w.heap.size, 0, none⟩ (.int .i64 r)).setCell ⟨w.heap.size, 1, none⟩ (.int .i64 s)) := (hC2.setCell hB _).setCell hB _
    refine ⟨hC3, ?_⟩
    refine (show wpK _ _ _ _ _ _ _ A19 _ from ?_)
    refine wpK_take 14 _ (.int .i64 e) (by kernel_rfl) rfl hC3 (Same.wants rfl fun w' hw' => ex_assign 101 rfl f19_101) ?_
    obtain ⟨A20, hA20⟩ : ∃ A, A = A19.put (some 19) (.int .i64 e) := ⟨_, rfl⟩
    refine (show wpK _ _ _ _ _ _ _ (A19.put (some 19) (.int .i64 e)) _ from ?_)
    rw [← hA20]
    have z20 := size_of hA20 z19
    have y20 := def_of hA20 y19
    have x20 := keep hA20 x19
    have f20_18 := sl_ne hA20 (by decide) f19_18
    have f20_19 := sl_same hA20 z19 (by decide)
    refine wpK_end (by kernel_rfl) ?_
    exact hQ _ w.heap.size _ z20 y20 (fun t ht => x20 t (fun h => ht (by simp only [List.mem_cons, List.not_mem_nil, or_false] at h; rcases h with rfl | rfl | rfl | rfl | rfl | rfl | rfl | rfl | rfl | rfl | rfl | rfl | rfl | rfl <;> decide))) f20_18 f20_19 hC3 (two_cells0 (by rw [k0]; rfl) (by rw [k1]; rfl)) (two_cells1 (by rw [k1]; rfl))

end Go.Proofs.Ytpeficmlgiilcaa
