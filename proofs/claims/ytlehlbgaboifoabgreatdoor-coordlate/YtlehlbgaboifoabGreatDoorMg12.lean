/- The contract of read of package line: a line of no kind, of a node, of one number alone. -/
import Derived.Test.YtlehlbgaboifoabGreatDoorMg09
import Derived.Test.YtlehlbgaboifoabGreatDoorMg11
import Derived.Deep.DeepCutAuto
import Derived.Deep.RegionHeld3
import Derived.Deep.MidRow
import Derived.Maps.OwnSet
import Derived.OwnWalk
namespace Go.Proofs.YtlehlbgaboifoabGreatDoor
open Go.RowKit
set_option linter.unusedSimpArgs false
set_option linter.unusedVariables false

/-- The block of a record. -/
abbrev RecBox (w : World) (R : Nat) (c0 c1 c2 c3 c4 c5 c6 c7 c8 c9 : Value) : Prop := Box w R #[c0, c1, c2, c3, c4, c5, c6, c7, c8, c9] 88
theorem RecBox.cells {w : World} {R : Nat} {c0 c1 c2 c3 c4 c5 c6 c7 c8 c9 : Value} (h : RecBox w R c0 c1 c2 c3 c4 c5 c6 c7 c8 c9) : w.cell? ⟨R, 0, none⟩ = some c0 ∧ w.cell? ⟨R, 1, none⟩ = some c1 ∧ w.cell? ⟨R, 2, none⟩ = some c2 ∧ w.cell? ⟨R, 3, none⟩ = some c3 ∧ w.cell? ⟨R, 4, none⟩ = some c4 ∧ w.cell? ⟨R, 5, none⟩ = some c5 ∧ w.cell? ⟨R, 6, none⟩ = some c6 ∧ w.cell? ⟨R, 7, none⟩ = some c7 ∧ w.cell? ⟨R, 8, none⟩ = some c8 ∧ w.cell? ⟨R, 9, none⟩ = some c9 :=
  ⟨h.cell rfl, h.cell rfl, h.cell rfl, h.cell rfl, h.cell rfl, h.cell rfl, h.cell rfl, h.cell rfl, h.cell rfl, h.cell rfl⟩

theorem RecBox.setAll {w : World} {A : Nat} {c0 c1 c2 c3 c4 c5 c6 c7 c8 c9 d0 d1 d2 d3 d4 d5 d6 d7 d8 d9 : Value} (h : RecBox w A d0 d1 d2 d3 d4 d5 d6 d7 d8 d9) : RecBox (w.setCells A 0 [c0, c1, c2, c3, c4, c5, c6, c7, c8, c9]) A c0 c1 c2 c3 c4 c5 c6 c7 c8 c9 := by
  have h0 : RecBox (w.setCell ⟨A, 0, none⟩ c0) A c0 d1 d2 d3 d4 d5 d6 d7 d8 d9 := h.set 0 c0
  have h1 : RecBox ((w.setCell ⟨A, 0, none⟩ c0).setCell ⟨A, 1, none⟩ c1) A c0 c1 d2 d3 d4 d5 d6 d7 d8 d9 := h0.set 1 c1
  have h2 : RecBox (((w.setCell ⟨A, 0, none⟩ c0).setCell ⟨A, 1, none⟩ c1).setCell ⟨A, 2, none⟩ c2) A c0 c1 c2 d3 d4 d5 d6 d7 d8 d9 := h1.set 2 c2
  have h3 : RecBox ((((w.setCell ⟨A, 0, none⟩ c0).setCell ⟨A, 1, none⟩ c1).setCell ⟨A, 2, none⟩ c2).setCell ⟨A, 3, none⟩ c3) A c0 c1 c2 c3 d4 d5 d6 d7 d8 d9 := h2.set 3 c3
  have h4 : RecBox (((((w.setCell ⟨A, 0, none⟩ c0).setCell ⟨A, 1, none⟩ c1).setCell ⟨A, 2, none⟩ c2).setCell ⟨A, 3, none⟩ c3).setCell ⟨A, 4, none⟩ c4) A c0 c1 c2 c3 c4 d5 d6 d7 d8 d9 := h3.set 4 c4
  have h5 : RecBox ((((((w.setCell ⟨A, 0, none⟩ c0).setCell ⟨A, 1, none⟩ c1).setCell ⟨A, 2, none⟩ c2).setCell ⟨A, 3, none⟩ c3).setCell ⟨A, 4, none⟩ c4).setCell ⟨A, 5, none⟩ c5) A c0 c1 c2 c3 c4 c5 d6 d7 d8 d9 := h4.set 5 c5
  have h6 : RecBox (((((((w.setCell ⟨A, 0, none⟩ c0).setCell ⟨A, 1, none⟩ c1).setCell ⟨A, 2, none⟩ c2).setCell ⟨A, 3, none⟩ c3).setCell ⟨A, 4, none⟩ c4).setCell ⟨A, 5, none⟩ c5).setCell ⟨A, 6, none⟩ c6) A c0 c1 c2 c3 c4 c5 c6 d7 d8 d9 := h5.set 6 c6
  have h7 : RecBox ((((((((w.setCell ⟨A, 0, none⟩ c0).setCell ⟨A, 1, none⟩ c1).setCell ⟨A, 2, none⟩ c2).setCell ⟨A, 3, none⟩ c3).setCell ⟨A, 4, none⟩ c4).setCell ⟨A, 5, none⟩ c5).setCell ⟨A, 6, none⟩ c6).setCell ⟨A, 7, none⟩ c7) A c0 c1 c2 c3 c4 c5 c6 c7 d8 d9 := h6.set 7 c7
  have h8 : RecBox (((((((((w.setCell ⟨A, 0, none⟩ c0).setCell ⟨A, 1, none⟩ c1).setCell ⟨A, 2, none⟩ c2).setCell ⟨A, 3, none⟩ c3).setCell ⟨A, 4, none⟩ c4).setCell ⟨A, 5, none⟩ c5).setCell ⟨A, 6, none⟩ c6).setCell ⟨A, 7, none⟩ c7).setCell ⟨A, 8, none⟩ c8) A c0 c1 c2 c3 c4 c5 c6 c7 c8 d9 := h7.set 8 c8
  have h9 : RecBox ((((((((((w.setCell ⟨A, 0, none⟩ c0).setCell ⟨A, 1, none⟩ c1).setCell ⟨A, 2, none⟩ c2).setCell ⟨A, 3, none⟩ c3).setCell ⟨A, 4, none⟩ c4).setCell ⟨A, 5, none⟩ c5).setCell ⟨A, 6, none⟩ c6).setCell ⟨A, 7, none⟩ c7).setCell ⟨A, 8, none⟩ c8).setCell ⟨A, 9, none⟩ c9) A c0 c1 c2 c3 c4 c5 c6 c7 c8 c9 := h8.set 9 c9
  exact h9
theorem Box.otherAll {A B : Nat} {cs : Array Value} {t : TypeId} (hne : B ≠ A) : ∀ (vs : List Value) (o : Nat) {w : World}, Box w B cs t → Box (w.setCells A o vs) B cs t
  | [], _, _, h => h
  | v :: r, o, _, h => Box.otherAll hne r (o + 1) (h.other hne o v)
theorem below_setAll {A B : Nat} {w0 : World} (hB : B ≤ A) : ∀ (vs : List Value) (o : Nat) {w : World}, Below B w0 w → Below B w0 (w.setCells A o vs)
  | [], _, _, h => h
  | v :: r, o, _, h => below_setAll hB r (o + 1) (h.setCell (p := ⟨A, o, none⟩) hB v)
theorem grown_setAll {A : Nat} {w0 : World} : ∀ (vs : List Value) (o : Nat) {w : World}, w0.grownBy w (some A) → w0.grownBy (w.setCells A o vs) (some A)
  | [], _, _, h => h
  | v :: r, o, _, h => grown_setAll r (o + 1) (grown_trans h (grown_set _ A o v))
theorem own_setAll {A base : Nat} {t : TypeId} {z n : Nat} {v : Value} {xs : List Value} (hA : A < base) : ∀ (vs : List Value) (o : Nat) {w : World}, w.ownsRow base t z v n xs → (w.setCells A o vs).ownsRow base t z v n xs
  | [], _, _, h => h
  | u :: r, o, _, h => own_setAll hA r (o + 1) (own_other h hA o u)
theorem Box.under {w w' : World} {A B : Nat} {cs : Array Value} {t : TypeId} (h : Box w A cs t) (hb : Below B w w') (hA : A < B) : Box w' A cs t := by
  unfold Box at *
  rw [hb.block A hA, h]
theorem run_store_rec {b : Act} {o : Oper} {w : World} {A : Nat} {c0 c1 c2 c3 c4 c5 c6 c7 c8 c9 d0 d1 d2 d3 d4 d5 d6 d7 d8 d9 : Value} (x y : Operand) (ho : o.op = .store 88 x y) (hx : b.eval x = .pointer (some ⟨A, 0, none⟩)) (hy : b.eval y = .agg #[c0, c1, c2, c3, c4, c5, c6, c7, c8, c9])
    (hr : RecBox w A d0 d1 d2 d3 d4 d5 d6 d7 d8 d9) (h1 : (#[c0, c1, c2, c3, c4, c5, c6, c7, c8, c9] : Array Value).all (·.oneCell') = true) : (execOp b.eval o).run Tryz.prog w = .ok .skip (w.setCells A 0 [c0, c1, c2, c3, c4, c5, c6, c7, c8, c9]) := by
  have hi : (Tryz.prog.info? 88).map (·.size) = some 10 := by kernel_rfl
  have ht : w.there A 0 10 := fun j hj => by
    refine ⟨?_, by rw [Nat.zero_add]; exact hr.frozen j⟩
    rw [Nat.zero_add]
    obtain ⟨v, hv⟩ : ∃ v, (#[d0, d1, d2, d3, d4, d5, d6, d7, d8, d9] : Array Value)[j]? = some v := ⟨_, Array.getElem?_eq_getElem (by simpa using hj)⟩
    rw [hr.cell hv]
    rfl
  unfold execOp
  simp only [ho, hx, hy, Instr.storeAt, Instr.sureAddr, Sem.run_bind, Sem.run_pure, Result.andThen_ok, run_storeVar_mid w A 0 88 #[c0, c1, c2, c3, c4, c5, c6, c7, c8, c9] ht hi h1]

/-- What each operation of read's last statement leaves. -/
def rdF (A L : Nat) (c0 c1 c2 c3 c4 c5 c6 c7 c8 c9 : Value) (nx : Int) : Nat → Value → World → Prop
  | 0, z, _ => z = .agg #[c0, c1, c2, c3, c4, c5, c6, c7, c8, c9]
  | 1, z, _ => z = .pointer (some ⟨L, 0, none⟩)
  | 2, z, _ => z = .pointer (some ⟨L, 0, none⟩)
  | 3, z, _ => z = .pointer (some ⟨L, 0, none⟩)
  | 4, z, _ => z = .int .i32 nx
  | 5, z, _ => z = .bool (nx == -2)
  | 6, _, w => Box w A #[c0, c1, c2, c3, c4, c5, c6, c7, c8, c9] 88
  | 7, z, _ => z = .bool (nx == -2)
  | _, _, _ => True
/-- What was stored stays. -/
structure RdS (A : Nat) (c0 c1 c2 c3 c4 c5 c6 c7 c8 c9 : Value) (w w' : World) : Prop where
  s0 : Box w A #[c0, c1, c2, c3, c4, c5, c6, c7, c8, c9] 88 → Box w' A #[c0, c1, c2, c3, c4, c5, c6, c7, c8, c9] 88
theorem RdS.refl (A : Nat) (c0 c1 c2 c3 c4 c5 c6 c7 c8 c9 : Value) (w : World) : RdS A c0 c1 c2 c3 c4 c5 c6 c7 c8 c9 w w := ⟨id⟩
/-- The blocks that all of them leave there. -/
structure RdR (A L R : Nat) (c0 c1 c2 c3 c4 c5 c6 c7 c8 c9 : Value) (nx : Int) (rs : ByteArray) (w W2 w1 : World) : Prop where
  br : Box w1 R #[c0, c1, c2, c3, c4, c5, c6, c7, c8, c9] 88
  bl : RBox w1 L nx rs
  ba : ∃ d0 d1 d2 d3 d4 d5 d6 d7 d8 d9, Box w1 A #[d0, d1, d2, d3, d4, d5, d6, d7, d8, d9] 88
  bel : Below w.heap.size w w1
  ne : A < L ∧ L < R
  gr : W2.grownBy w1 (some A)

set_option maxRecDepth 100000 in
set_option maxHeartbeats 4000000 in
theorem read_bad (s : ByteArray) (T : ByteArray × Int × ByteArray) (w : World) (hs : s.size ≤ 1000000) (hT : wordF (-1) (-1) s = T) (hk : kindR T.1 7 1 = 0) :
    Calls Tryz.prog 135 #[.string s] w fun e w' => e = .returned (.tuple #[.agg #[.int .i64 0, .int .i64 0, .slice none 0 0, .slice none 0 0, .string ⟨#[]⟩, .int .i64 0, .int .i64 0, .slice none 0 0, .slice none 0 0, .bool false], .bool false]) ∧ Below w.heap.size w w' := by
  obtain ⟨v, n1, s1⟩ := T
  simp only at hk
  go_enter Tryz.func135, Tryz.ntmps135
  go_upto_region 4 with (first
    | (go_at_call 167
       refine (word_any (w.heap.size + 1) (-1) (-1) s _ _ hs hT (Box.new _ _ _ (by simp))).mono ?_
       rintro e w1 ⟨rfl, hL1, hg1⟩)
    | (go_at_call 166; refine (kindOf_any _ _).mono ?_; rw [hk]; rintro e w1 ⟨rfl, rfl⟩))
  have hA1 : Box w1 w.heap.size #[.int .i64 0, .int .i64 0, .slice none 0 0, .slice none 0 0, .string ⟨#[]⟩, .int .i64 0, .int .i64 0, .slice none 0 0, .slice none 0 0, .bool false] 88 := ((Box.new w _ _ rfl).up _).grown hg1 (by simp)
  have hb1 : Below w.heap.size w w1 := (up (up (Below.refl w.heap.size w) _) _).grown hg1 (by simp; omega) (fun j hj => by cases hj; omega)
  have hlt := hL1.lt
  have hA := hA1.up (.cells #[.int .i64 0, .int .i64 0, .slice none 0 0, .slice none 0 0, .string ⟨#[]⟩, .int .i64 0, .int .i64 0, .slice none 0 0, .slice none 0 0, .bool false] 88)
  have hL := hL1.up (.cells #[.int .i64 0, .int .i64 0, .slice none 0 0, .slice none 0 0, .string ⟨#[]⟩, .int .i64 0, .int .i64 0, .slice none 0 0, .slice none 0 0, .bool false] 88)
  have hR : Box (w1.alloc (.cells #[.int .i64 0, .int .i64 0, .slice none 0 0, .slice none 0 0, .string ⟨#[]⟩, .int .i64 0, .int .i64 0, .slice none 0 0, .slice none 0 0, .bool false] 88)) w1.heap.size #[.int .i64 0, .int .i64 0, .slice none 0 0, .slice none 0 0, .string ⟨#[]⟩, .int .i64 0, .int .i64 0, .slice none 0 0, .slice none 0 0, .bool false] 88 := Box.new _ _ _ rfl
  have hb := up hb1 (.cells #[.int .i64 0, .int .i64 0, .slice none 0 0, .slice none 0 0, .string ⟨#[]⟩, .int .i64 0, .int .i64 0, .slice none 0 0, .slice none 0 0, .bool false] 88)
  generalize w1.alloc (.cells #[.int .i64 0, .int .i64 0, .slice none 0 0, .slice none 0 0, .string ⟨#[]⟩, .int .i64 0, .int .i64 0, .slice none 0 0, .slice none 0 0, .bool false] 88) = W at *
  generalize hRn : w1.heap.size = R at *
  obtain ⟨L, hLn⟩ : ∃ L, w.heap.size + 1 = L := ⟨_, rfl⟩
  rw [hLn] at hL hlt ⊢
  clear hL1 hg1 hA1 hb1 hRn
  have hAL : w.heap.size < L := by omega
  obtain ⟨y0, y1⟩ := hL.cells2
  obtain ⟨x0, x1, x2, x3, x4, x5, x6, x7, x8, x9⟩ := RecBox.cells hR
  have z0 := hL.frozen 0
  have hR2 := hR.other (b := L) (by omega) 0 (.int .i32 (-3))
  have hL2 : RBox _ L (-3) s1 := hL.set 0 (.int .i32 (-3))
  have hA2 := hA.other (b := L) (by omega) 0 (.int .i32 (-3))
  have hb2 := hb.setCell (p := ⟨L, 0, none⟩) (by simp; omega) (.int .i32 (-3))
  go_upto_region 10 with (first
    | (go_at_call 79; refine (known_all _ _).mono ?_; rintro e W ⟨rfl, rfl⟩))
  generalize W.setCell ⟨L, 0, none⟩ (.int .i32 (-3)) = W2 at *
  have hR0 : RdR w.heap.size L R _ _ _ _ _ _ _ _ _ _ _ _ w W2 W2.drew := ⟨hR2, hL2, ⟨_, _, _, _, _, _, _, _, _, _, hA2⟩, hb2.drew, ⟨hAL, hlt⟩, grown_drew (World.grownBy.refl _ _)⟩
  clear hA hL hR hb hA2 hL2 hR2 hb2 y0 y1 x0 x1 x2 x3 x4 x5 x6 x7 x8 x9 z0
  refine wp_region_relyZ (fun w1 => RdR w.heap.size L R (.int .i64 0) (.int .i64 0) (.slice none 0 0) (.slice none 0 0) (.string ⟨#[]⟩) (.int .i64 0) (.int .i64 0) (.slice none 0 0) (.slice none 0 0) (.bool false) (-3) (s1) w W2 w1) (fun w1 w2 => RdS w.heap.size (.int .i64 0) (.int .i64 0) (.slice none 0 0) (.slice none 0 0) (.string ⟨#[]⟩) (.int .i64 0) (.int .i64 0) (.slice none 0 0) (.slice none 0 0) (.bool false) w1 w2) (rdF w.heap.size L (.int .i64 0) (.int .i64 0) (.slice none 0 0) (.slice none 0 0) (.string ⟨#[]⟩) (.int .i64 0) (.int .i64 0) (.slice none 0 0) (.slice none 0 0) (.bool false) (-3)) (by kernel_rfl) (by kernel_rfl) hR0 ?keep ?step ?rest
  case keep =>
    intro i z w1 w2 hS hF
    unfold rdF at *
    split at hF <;> first | exact hF | exact hS.s0 hF
  case step =>
    intro i o ho b w1 hR hold hdep
    have o2 : sl b 2 = .pointer (some ⟨w.heap.size, 0, none⟩) := hold 2 (by kernel_rfl)
    have o4 : sl b 4 = .pointer (some ⟨L, 0, none⟩) := hold 4 (by kernel_rfl)
    have o5 : sl b 5 = .pointer (some ⟨R, 0, none⟩) := hold 5 (by kernel_rfl)
    obtain ⟨x0, x1, x2, x3, x4, x5, x6, x7, x8, x9⟩ := RecBox.cells hR.br
    obtain ⟨y0, y1⟩ := hR.bl.cells2
    have hS := RdS.refl w.heap.size (.int .i64 0) (.int .i64 0) (.slice none 0 0) (.slice none 0 0) (.string ⟨#[]⟩) (.int .i64 0) (.int .i64 0) (.slice none 0 0) (.slice none 0 0) (.bool false) w1
    rcases i with _ | _ | _ | _ | _ | _ | _ | _ | i
    all_goals try cases ho
    · exact okZ_val rfl rfl (want_none rfl b) (by simp [go_sem, o5, x0, x1, x2, x3, x4, x5, x6, x7, x8, x9]) hR hS rfl
    · exact okZ_val rfl rfl (want_none rfl b) (by simp [go_sem, o4]) hR hS rfl
    · have f39 : sl b 39 = .pointer (some ⟨L, 0, none⟩) := hdep 1 _ rfl (by kernel_rfl)
      exact okZ_val rfl rfl (want_none rfl b) (by simp [go_sem, f39]) hR hS rfl
    · have f40 : sl b 40 = .pointer (some ⟨L, 0, none⟩) := hdep 2 _ rfl (by kernel_rfl)
      exact okZ_val rfl rfl (want_none rfl b) (by simp [go_sem, f40]) hR hS rfl
    · have f41 : sl b 41 = .pointer (some ⟨L, 0, none⟩) := hdep 3 _ rfl (by kernel_rfl)
      exact okZ_val rfl rfl (want_none rfl b) (by simp [go_sem, f41, y0]) hR hS rfl
    · have f42 : sl b 42 = .int .i32 (-3) := hdep 4 _ rfl (by kernel_rfl)
      exact okZ_val rfl rfl (want_none rfl b) (by simp [go_sem, f42]) hR hS rfl
    · have f38 : sl b 38 = .agg #[.int .i64 0, .int .i64 0, .slice none 0 0, .slice none 0 0, .string ⟨#[]⟩, .int .i64 0, .int .i64 0, .slice none 0 0, .slice none 0 0, .bool false] := hdep 0 _ rfl (by kernel_rfl)
      obtain ⟨d0, d1, d2, d3, d4, d5, d6, d7, d8, d9, hr⟩ := hR.ba
      refine okZ_store rfl rfl (want_none rfl b) (run_store_rec (.tmp 2) (.tmp 38) rfl (by simpa [go_sem] using o2) (by simpa [go_sem] using f38) hr (by kernel_rfl)) ?_ ?_ ?_
      · exact ⟨Box.otherAll (by have := hR.ne; omega) _ _ hR.br, Box.otherAll (by have := hR.ne; omega) _ _ hR.bl, ⟨_, _, _, _, _, _, _, _, _, _, RecBox.setAll hr⟩, below_setAll (Nat.le_refl _) _ _ hR.bel, hR.ne, grown_setAll _ _ hR.gr⟩
      · exact ⟨fun h => RecBox.setAll h⟩
      · exact RecBox.setAll hr
    · have f43 : sl b 43 = .bool ((-3 : Int) == -2) := hdep 5 _ rfl (by kernel_rfl)
      exact okZ_val rfl rfl (want_none rfl b) (by simp [go_sem, f43]) hR hS rfl
  case rest =>
    intro b w1 hR hsz hdf hold hF
    have f2 : sl b 2 = .pointer (some ⟨w.heap.size, 0, none⟩) := hold 2 (by kernel_rfl)
    have f3 : sl b 3 = .bool ((-3 : Int) == -2) := hF 7 _ rfl
    have t0 : Box w1 w.heap.size #[.int .i64 0, .int .i64 0, .slice none 0 0, .slice none 0 0, .string ⟨#[]⟩, .int .i64 0, .int .i64 0, .slice none 0 0, .slice none 0 0, .bool false] 88 := hF 6 _ rfl
    have hB : b = _ := act_list b (show b.tmps.size = 44 from hsz) hdf
    rw [hB]
    simp only [List.range, List.range.loop, List.map_cons, List.map_nil, f2, f3]
    generalize sl b 0 = v0, sl b 1 = v1, sl b 4 = v4, sl b 5 = v5, sl b 6 = v6, sl b 7 = v7, sl b 8 = v8, sl b 9 = v9, sl b 10 = v10, sl b 11 = v11, sl b 12 = v12, sl b 13 = v13, sl b 14 = v14, sl b 15 = v15, sl b 16 = v16, sl b 17 = v17, sl b 18 = v18, sl b 19 = v19, sl b 20 = v20, sl b 21 = v21, sl b 22 = v22, sl b 23 = v23, sl b 24 = v24, sl b 25 = v25, sl b 26 = v26, sl b 27 = v27, sl b 28 = v28, sl b 29 = v29, sl b 30 = v30, sl b 31 = v31, sl b 32 = v32, sl b 33 = v33, sl b 34 = v34, sl b 35 = v35, sl b 36 = v36, sl b 37 = v37, sl b 38 = v38, sl b 39 = v39, sl b 40 = v40, sl b 41 = v41, sl b 42 = v42, sl b 43 = v43
    obtain ⟨x0, x1, x2, x3, x4, x5, x6, x7, x8, x9⟩ := RecBox.cells t0
    have hbel := hR.bel
    have hgr := hR.gr
    clear hB hold hsz hdf hF f2 f3 hR
    go_wp2
    exact bodyPost_ret (by simp [results, Tryz.results135, go_sem, x0, x1, x2, x3, x4, x5, x6, x7, x8, x9]) rfl ⟨rfl, hbel⟩

set_option maxRecDepth 100000 in
set_option maxHeartbeats 4000000 in
theorem read_node (s : ByteArray) (T : ByteArray × Int × ByteArray) (N : NodeB × Int × ByteArray) (w : World) (hs : s.size ≤ 1000000) (hT : wordF (-1) (-1) s = T) (hk : kindR T.1 7 1 = 1) (hN : nodeF T.2.1 T.2.2 = N) (hs1 : T.2.2.size ≤ 1000000) :
    Calls Tryz.prog 135 #[.string s] w fun e w' => ∃ v1 v2, e = .returned (.tuple #[.agg #[.int .i64 1, .int .i64 0, .slice none 0 0, .slice none 0 0, .string N.1.name, .int .i64 N.1.cpu, .int .i64 N.1.mem, v1, v2, .bool N.1.closed], .bool (N.2.1 == -2)]) ∧
      w'.ownsRow (w.heap.size + 1) 9 1 v1 N.1.marks.length (N.1.marks.map Value.string) ∧ w'.ownsRow (w.heap.size + 1) 9 1 v2 N.1.taints.length (N.1.taints.map Value.string) ∧ Below w.heap.size w w' := by
  obtain ⟨⟨name, cpu, mem, marks, taints, cl⟩, n2, s2⟩ := N
  obtain ⟨v, n1, s1⟩ := T
  simp only at hk
  go_enter Tryz.func135, Tryz.ntmps135
  go_upto_region 4 with (first
    | (go_at_call 167
       refine (word_any (w.heap.size + 1) (-1) (-1) s _ _ hs hT (Box.new _ _ _ (by simp))).mono ?_
       rintro e w1 ⟨rfl, hL1, hg1⟩)
    | (go_at_call 166; refine (kindOf_any _ _).mono ?_; rw [hk]; rintro e w1 ⟨rfl, rfl⟩))
  have hA1 : Box w1 w.heap.size #[.int .i64 0, .int .i64 0, .slice none 0 0, .slice none 0 0, .string ⟨#[]⟩, .int .i64 0, .int .i64 0, .slice none 0 0, .slice none 0 0, .bool false] 88 := ((Box.new w _ _ rfl).up _).grown hg1 (by simp)
  have hb1 : Below w.heap.size w w1 := (up (up (Below.refl w.heap.size w) _) _).grown hg1 (by simp; omega) (fun j hj => by cases hj; omega)
  have hlt := hL1.lt
  have hA := hA1.up (.cells #[.int .i64 1, .int .i64 0, .slice none 0 0, .slice none 0 0, .string ⟨#[]⟩, .int .i64 0, .int .i64 0, .slice none 0 0, .slice none 0 0, .bool false] 88)
  have hL := hL1.up (.cells #[.int .i64 1, .int .i64 0, .slice none 0 0, .slice none 0 0, .string ⟨#[]⟩, .int .i64 0, .int .i64 0, .slice none 0 0, .slice none 0 0, .bool false] 88)
  have hR : Box (w1.alloc (.cells #[.int .i64 1, .int .i64 0, .slice none 0 0, .slice none 0 0, .string ⟨#[]⟩, .int .i64 0, .int .i64 0, .slice none 0 0, .slice none 0 0, .bool false] 88)) w1.heap.size #[.int .i64 1, .int .i64 0, .slice none 0 0, .slice none 0 0, .string ⟨#[]⟩, .int .i64 0, .int .i64 0, .slice none 0 0, .slice none 0 0, .bool false] 88 := Box.new _ _ _ rfl
  have hb := up hb1 (.cells #[.int .i64 1, .int .i64 0, .slice none 0 0, .slice none 0 0, .string ⟨#[]⟩, .int .i64 0, .int .i64 0, .slice none 0 0, .slice none 0 0, .bool false] 88)
  generalize w1.alloc (.cells #[.int .i64 1, .int .i64 0, .slice none 0 0, .slice none 0 0, .string ⟨#[]⟩, .int .i64 0, .int .i64 0, .slice none 0 0, .slice none 0 0, .bool false] 88) = W at *
  generalize hRn : w1.heap.size = R at *
  obtain ⟨L, hLn⟩ : ∃ L, w.heap.size + 1 = L := ⟨_, rfl⟩
  rw [hLn] at hL hlt ⊢
  clear hL1 hg1 hA1 hb1 hRn
  have hAL : w.heap.size < L := by omega
  try dsimp only at hN
  try dsimp only at hs1
  obtain ⟨x0, x1, x2, x3, x4, x5, x6, x7, x8, x9⟩ := RecBox.cells hR
  have hRW := hR.lt
  go_upto_region 10 with (first
    | (go_at_call 79; refine (known_all _ _).mono ?_; rintro e W ⟨rfl, rfl⟩)
    | (go_at_call 168
       refine (rnode_any L n1 s1 _ _ hs1 hN hL).mono ?_
       rintro e W3 ⟨v1, v2, rfl, ho1, ho2, hL3, hg3⟩
       obtain ⟨a1, c1, rfl⟩ := tslice_of_own ho1
       obtain ⟨a2, c2, rfl⟩ := tslice_of_own ho2
       simp only at ho1 ho2 hL3
       generalize hk1 : marks.length = k1 at *
       generalize hk2 : taints.length = k2 at *
       have hR3 := hR.grown hg3 (by simp; omega)
       have hA3 := hA.grown hg3 (by simp; omega)
       have hb3 : Below w.heap.size w W3 := hb.grown hg3 hb.size (fun j hj => by cases hj; omega)
       clear x0 x1 x2 x3 x4 x5 x6 x7 x8 x9
       obtain ⟨x0, x1, x2, x3, x4, x5, x6, x7, x8, x9⟩ := RecBox.cells hR3
       have fr : ∀ j, W3.frozen? ⟨R, j, none⟩ = false := fun j => hR3.frozen j
       have fr4 := fr 4
       have fr5 := fr 5
       have fr6 := fr 6
       have fr7 := fr 7
       have fr8 := fr 8
       have fr9 := fr 9
       have hR30 : RecBox (W3.setCell ⟨R, 4, none⟩ (.string name)) R (.int .i64 1) (.int .i64 0) (.slice none 0 0) (.slice none 0 0) (.string name) (.int .i64 0) (.int .i64 0) (.slice none 0 0) (.slice none 0 0) (.bool false) := hR3.set 4 _
       have hR31 : RecBox ((W3.setCell ⟨R, 4, none⟩ (.string name)).setCell ⟨R, 5, none⟩ (.int .i64 cpu)) R (.int .i64 1) (.int .i64 0) (.slice none 0 0) (.slice none 0 0) (.string name) (.int .i64 cpu) (.int .i64 0) (.slice none 0 0) (.slice none 0 0) (.bool false) := hR30.set 5 _
       have hR32 : RecBox (((W3.setCell ⟨R, 4, none⟩ (.string name)).setCell ⟨R, 5, none⟩ (.int .i64 cpu)).setCell ⟨R, 6, none⟩ (.int .i64 mem)) R (.int .i64 1) (.int .i64 0) (.slice none 0 0) (.slice none 0 0) (.string name) (.int .i64 cpu) (.int .i64 mem) (.slice none 0 0) (.slice none 0 0) (.bool false) := hR31.set 6 _
       have hR33 : RecBox ((((W3.setCell ⟨R, 4, none⟩ (.string name)).setCell ⟨R, 5, none⟩ (.int .i64 cpu)).setCell ⟨R, 6, none⟩ (.int .i64 mem)).setCell ⟨R, 7, none⟩ (.slice a1 k1 c1)) R (.int .i64 1) (.int .i64 0) (.slice none 0 0) (.slice none 0 0) (.string name) (.int .i64 cpu) (.int .i64 mem) (.slice a1 k1 c1) (.slice none 0 0) (.bool false) := hR32.set 7 _
       have hR34 : RecBox (((((W3.setCell ⟨R, 4, none⟩ (.string name)).setCell ⟨R, 5, none⟩ (.int .i64 cpu)).setCell ⟨R, 6, none⟩ (.int .i64 mem)).setCell ⟨R, 7, none⟩ (.slice a1 k1 c1)).setCell ⟨R, 8, none⟩ (.slice a2 k2 c2)) R (.int .i64 1) (.int .i64 0) (.slice none 0 0) (.slice none 0 0) (.string name) (.int .i64 cpu) (.int .i64 mem) (.slice a1 k1 c1) (.slice a2 k2 c2) (.bool false) := hR33.set 8 _
       have hR35 : RecBox ((((((W3.setCell ⟨R, 4, none⟩ (.string name)).setCell ⟨R, 5, none⟩ (.int .i64 cpu)).setCell ⟨R, 6, none⟩ (.int .i64 mem)).setCell ⟨R, 7, none⟩ (.slice a1 k1 c1)).setCell ⟨R, 8, none⟩ (.slice a2 k2 c2)).setCell ⟨R, 9, none⟩ (.bool cl)) R (.int .i64 1) (.int .i64 0) (.slice none 0 0) (.slice none 0 0) (.string name) (.int .i64 cpu) (.int .i64 mem) (.slice a1 k1 c1) (.slice a2 k2 c2) (.bool cl) := hR34.set 9 _
))
  have hL4 : RBox ((((((W3.setCell ⟨R, 4, none⟩ (.string name)).setCell ⟨R, 5, none⟩ (.int .i64 cpu)).setCell ⟨R, 6, none⟩ (.int .i64 mem)).setCell ⟨R, 7, none⟩ (.slice a1 k1 c1)).setCell ⟨R, 8, none⟩ (.slice a2 k2 c2)).setCell ⟨R, 9, none⟩ (.bool cl)) L n2 s2 := Box.otherAll (A := R) (by omega) [.string name, .int .i64 cpu, .int .i64 mem, .slice a1 k1 c1, .slice a2 k2 c2, .bool cl] 4 hL3
  have hA4 : Box ((((((W3.setCell ⟨R, 4, none⟩ (.string name)).setCell ⟨R, 5, none⟩ (.int .i64 cpu)).setCell ⟨R, 6, none⟩ (.int .i64 mem)).setCell ⟨R, 7, none⟩ (.slice a1 k1 c1)).setCell ⟨R, 8, none⟩ (.slice a2 k2 c2)).setCell ⟨R, 9, none⟩ (.bool cl)) w.heap.size #[.int .i64 0, .int .i64 0, .slice none 0 0, .slice none 0 0, .string ⟨#[]⟩, .int .i64 0, .int .i64 0, .slice none 0 0, .slice none 0 0, .bool false] 88 := Box.otherAll (A := R) (by omega) [.string name, .int .i64 cpu, .int .i64 mem, .slice a1 k1 c1, .slice a2 k2 c2, .bool cl] 4 hA3
  have hb4 : Below w.heap.size w ((((((W3.setCell ⟨R, 4, none⟩ (.string name)).setCell ⟨R, 5, none⟩ (.int .i64 cpu)).setCell ⟨R, 6, none⟩ (.int .i64 mem)).setCell ⟨R, 7, none⟩ (.slice a1 k1 c1)).setCell ⟨R, 8, none⟩ (.slice a2 k2 c2)).setCell ⟨R, 9, none⟩ (.bool cl)) := below_setAll (A := R) (by omega) [.string name, .int .i64 cpu, .int .i64 mem, .slice a1 k1 c1, .slice a2 k2 c2, .bool cl] 4 hb3
  have p1 : (((((((W3.setCell ⟨R, 4, none⟩ (.string name)).setCell ⟨R, 5, none⟩ (.int .i64 cpu)).setCell ⟨R, 6, none⟩ (.int .i64 mem)).setCell ⟨R, 7, none⟩ (.slice a1 k1 c1)).setCell ⟨R, 8, none⟩ (.slice a2 k2 c2)).setCell ⟨R, 9, none⟩ (.bool cl))).ownsRow W.heap.size 9 1 (.slice a1 k1 c1) k1 (marks.map Value.string) := own_setAll hRW [.string name, .int .i64 cpu, .int .i64 mem, .slice a1 k1 c1, .slice a2 k2 c2, .bool cl] 4 ho1
  have p2 : (((((((W3.setCell ⟨R, 4, none⟩ (.string name)).setCell ⟨R, 5, none⟩ (.int .i64 cpu)).setCell ⟨R, 6, none⟩ (.int .i64 mem)).setCell ⟨R, 7, none⟩ (.slice a1 k1 c1)).setCell ⟨R, 8, none⟩ (.slice a2 k2 c2)).setCell ⟨R, 9, none⟩ (.bool cl))).ownsRow W.heap.size 9 1 (.slice a2 k2 c2) k2 (taints.map Value.string) := own_setAll hRW [.string name, .int .i64 cpu, .int .i64 mem, .slice a1 k1 c1, .slice a2 k2 c2, .bool cl] 4 ho2
  generalize ((((((W3.setCell ⟨R, 4, none⟩ (.string name)).setCell ⟨R, 5, none⟩ (.int .i64 cpu)).setCell ⟨R, 6, none⟩ (.int .i64 mem)).setCell ⟨R, 7, none⟩ (.slice a1 k1 c1)).setCell ⟨R, 8, none⟩ (.slice a2 k2 c2)).setCell ⟨R, 9, none⟩ (.bool cl)) = W2 at *
  have hbase : w.heap.size + 1 ≤ W.heap.size := by omega
  have hR0 : RdR w.heap.size L R _ _ _ _ _ _ _ _ _ _ _ _ w W2 W2.drew := ⟨hR35, hL4, ⟨_, _, _, _, _, _, _, _, _, _, hA4⟩, hb4.drew, ⟨hAL, hlt⟩, grown_drew (World.grownBy.refl _ _)⟩
  clear hA hL hR hb hA4 hL4 hR35 hb4 hA3 hL3 hR3 hb3 hg3 ho1 ho2 hR30 hR31 hR32 hR33 hR34 x0 x1 x2 x3 x4 x5 x6 x7 x8 x9 fr fr4 fr5 fr6 fr7 fr8 fr9
  refine wp_region_relyZ (fun w1 => RdR w.heap.size L R (.int .i64 1) (.int .i64 0) (.slice none 0 0) (.slice none 0 0) (.string name) (.int .i64 cpu) (.int .i64 mem) (.slice a1 k1 c1) (.slice a2 k2 c2) (.bool cl) (n2) (s2) w W2 w1) (fun w1 w2 => RdS w.heap.size (.int .i64 1) (.int .i64 0) (.slice none 0 0) (.slice none 0 0) (.string name) (.int .i64 cpu) (.int .i64 mem) (.slice a1 k1 c1) (.slice a2 k2 c2) (.bool cl) w1 w2) (rdF w.heap.size L (.int .i64 1) (.int .i64 0) (.slice none 0 0) (.slice none 0 0) (.string name) (.int .i64 cpu) (.int .i64 mem) (.slice a1 k1 c1) (.slice a2 k2 c2) (.bool cl) (n2)) (by kernel_rfl) (by kernel_rfl) hR0 ?keep ?step ?rest
  case keep =>
    intro i z w1 w2 hS hF
    unfold rdF at *
    split at hF <;> first | exact hF | exact hS.s0 hF
  case step =>
    intro i o ho b w1 hR hold hdep
    have o2 : sl b 2 = .pointer (some ⟨w.heap.size, 0, none⟩) := hold 2 (by kernel_rfl)
    have o4 : sl b 4 = .pointer (some ⟨L, 0, none⟩) := hold 4 (by kernel_rfl)
    have o5 : sl b 5 = .pointer (some ⟨R, 0, none⟩) := hold 5 (by kernel_rfl)
    obtain ⟨x0, x1, x2, x3, x4, x5, x6, x7, x8, x9⟩ := RecBox.cells hR.br
    obtain ⟨y0, y1⟩ := hR.bl.cells2
    have hS := RdS.refl w.heap.size (.int .i64 1) (.int .i64 0) (.slice none 0 0) (.slice none 0 0) (.string name) (.int .i64 cpu) (.int .i64 mem) (.slice a1 k1 c1) (.slice a2 k2 c2) (.bool cl) w1
    rcases i with _ | _ | _ | _ | _ | _ | _ | _ | i
    all_goals try cases ho
    · exact okZ_val rfl rfl (want_none rfl b) (by simp [go_sem, o5, x0, x1, x2, x3, x4, x5, x6, x7, x8, x9]) hR hS rfl
    · exact okZ_val rfl rfl (want_none rfl b) (by simp [go_sem, o4]) hR hS rfl
    · have f39 : sl b 39 = .pointer (some ⟨L, 0, none⟩) := hdep 1 _ rfl (by kernel_rfl)
      exact okZ_val rfl rfl (want_none rfl b) (by simp [go_sem, f39]) hR hS rfl
    · have f40 : sl b 40 = .pointer (some ⟨L, 0, none⟩) := hdep 2 _ rfl (by kernel_rfl)
      exact okZ_val rfl rfl (want_none rfl b) (by simp [go_sem, f40]) hR hS rfl
    · have f41 : sl b 41 = .pointer (some ⟨L, 0, none⟩) := hdep 3 _ rfl (by kernel_rfl)
      exact okZ_val rfl rfl (want_none rfl b) (by simp [go_sem, f41, y0]) hR hS rfl
    · have f42 : sl b 42 = .int .i32 (n2) := hdep 4 _ rfl (by kernel_rfl)
      exact okZ_val rfl rfl (want_none rfl b) (by simp [go_sem, f42]) hR hS rfl
    · have f38 : sl b 38 = .agg #[.int .i64 1, .int .i64 0, .slice none 0 0, .slice none 0 0, .string name, .int .i64 cpu, .int .i64 mem, .slice a1 k1 c1, .slice a2 k2 c2, .bool cl] := hdep 0 _ rfl (by kernel_rfl)
      obtain ⟨d0, d1, d2, d3, d4, d5, d6, d7, d8, d9, hr⟩ := hR.ba
      refine okZ_store rfl rfl (want_none rfl b) (run_store_rec (.tmp 2) (.tmp 38) rfl (by simpa [go_sem] using o2) (by simpa [go_sem] using f38) hr (by kernel_rfl)) ?_ ?_ ?_
      · exact ⟨Box.otherAll (by have := hR.ne; omega) _ _ hR.br, Box.otherAll (by have := hR.ne; omega) _ _ hR.bl, ⟨_, _, _, _, _, _, _, _, _, _, RecBox.setAll hr⟩, below_setAll (Nat.le_refl _) _ _ hR.bel, hR.ne, grown_setAll _ _ hR.gr⟩
      · exact ⟨fun h => RecBox.setAll h⟩
      · exact RecBox.setAll hr
    · have f43 : sl b 43 = .bool ((n2 : Int) == -2) := hdep 5 _ rfl (by kernel_rfl)
      exact okZ_val rfl rfl (want_none rfl b) (by simp [go_sem, f43]) hR hS rfl
  case rest =>
    intro b w1 hR hsz hdf hold hF
    have f2 : sl b 2 = .pointer (some ⟨w.heap.size, 0, none⟩) := hold 2 (by kernel_rfl)
    have f3 : sl b 3 = .bool ((n2 : Int) == -2) := hF 7 _ rfl
    have t0 : Box w1 w.heap.size #[.int .i64 1, .int .i64 0, .slice none 0 0, .slice none 0 0, .string name, .int .i64 cpu, .int .i64 mem, .slice a1 k1 c1, .slice a2 k2 c2, .bool cl] 88 := hF 6 _ rfl
    have hB : b = _ := act_list b (show b.tmps.size = 44 from hsz) hdf
    rw [hB]
    simp only [List.range, List.range.loop, List.map_cons, List.map_nil, f2, f3]
    generalize sl b 0 = v0, sl b 1 = v1, sl b 4 = v4, sl b 5 = v5, sl b 6 = v6, sl b 7 = v7, sl b 8 = v8, sl b 9 = v9, sl b 10 = v10, sl b 11 = v11, sl b 12 = v12, sl b 13 = v13, sl b 14 = v14, sl b 15 = v15, sl b 16 = v16, sl b 17 = v17, sl b 18 = v18, sl b 19 = v19, sl b 20 = v20, sl b 21 = v21, sl b 22 = v22, sl b 23 = v23, sl b 24 = v24, sl b 25 = v25, sl b 26 = v26, sl b 27 = v27, sl b 28 = v28, sl b 29 = v29, sl b 30 = v30, sl b 31 = v31, sl b 32 = v32, sl b 33 = v33, sl b 34 = v34, sl b 35 = v35, sl b 36 = v36, sl b 37 = v37, sl b 38 = v38, sl b 39 = v39, sl b 40 = v40, sl b 41 = v41, sl b 42 = v42, sl b 43 = v43
    obtain ⟨x0, x1, x2, x3, x4, x5, x6, x7, x8, x9⟩ := RecBox.cells t0
    have hbel := hR.bel
    have hgr := hR.gr
    clear hB hold hsz hdf hF f2 f3 hR
    go_wp2
    exact bodyPost_ret (by simp [results, Tryz.results135, go_sem, x0, x1, x2, x3, x4, x5, x6, x7, x8, x9]) rfl ⟨.slice a1 k1 c1, .slice a2 k2 c2, rfl, by rw [hk1]; exact own_grown (town_low p1 hbase) hgr (fun g hg => by simp; omega), by rw [hk2]; exact own_grown (town_low p2 hbase) hgr (fun g hg => by simp; omega), hbel⟩

set_option maxRecDepth 100000 in
set_option maxHeartbeats 4000000 in
theorem read_four (s : ByteArray) (T : ByteArray × Int × ByteArray) (N : Nat × Int × ByteArray) (w : World) (hs : s.size ≤ 1000000) (hT : wordF (-1) (-1) s = T) (hk : kindR T.1 7 1 = 4) (hN : numF T.2.1 32 T.2.2 = N) (hs1 : T.2.2.size ≤ 1000000) :
    Calls Tryz.prog 135 #[.string s] w fun e w' => e = .returned (.tuple #[.agg #[.int .i64 4, .int .i64 N.1, .slice none 0 0, .slice none 0 0, .string ⟨#[]⟩, .int .i64 0, .int .i64 0, .slice none 0 0, .slice none 0 0, .bool false], .bool (N.2.1 == -2)]) ∧ Below w.heap.size w w' := by
  obtain ⟨gn, n2, s2⟩ := N
  obtain ⟨v, n1, s1⟩ := T
  simp only at hk
  go_enter Tryz.func135, Tryz.ntmps135
  go_upto_region 4 with (first
    | (go_at_call 167
       refine (word_any (w.heap.size + 1) (-1) (-1) s _ _ hs hT (Box.new _ _ _ (by simp))).mono ?_
       rintro e w1 ⟨rfl, hL1, hg1⟩)
    | (go_at_call 166; refine (kindOf_any _ _).mono ?_; rw [hk]; rintro e w1 ⟨rfl, rfl⟩))
  have hA1 : Box w1 w.heap.size #[.int .i64 0, .int .i64 0, .slice none 0 0, .slice none 0 0, .string ⟨#[]⟩, .int .i64 0, .int .i64 0, .slice none 0 0, .slice none 0 0, .bool false] 88 := ((Box.new w _ _ rfl).up _).grown hg1 (by simp)
  have hb1 : Below w.heap.size w w1 := (up (up (Below.refl w.heap.size w) _) _).grown hg1 (by simp; omega) (fun j hj => by cases hj; omega)
  have hlt := hL1.lt
  have hA := hA1.up (.cells #[.int .i64 4, .int .i64 0, .slice none 0 0, .slice none 0 0, .string ⟨#[]⟩, .int .i64 0, .int .i64 0, .slice none 0 0, .slice none 0 0, .bool false] 88)
  have hL := hL1.up (.cells #[.int .i64 4, .int .i64 0, .slice none 0 0, .slice none 0 0, .string ⟨#[]⟩, .int .i64 0, .int .i64 0, .slice none 0 0, .slice none 0 0, .bool false] 88)
  have hR : Box (w1.alloc (.cells #[.int .i64 4, .int .i64 0, .slice none 0 0, .slice none 0 0, .string ⟨#[]⟩, .int .i64 0, .int .i64 0, .slice none 0 0, .slice none 0 0, .bool false] 88)) w1.heap.size #[.int .i64 4, .int .i64 0, .slice none 0 0, .slice none 0 0, .string ⟨#[]⟩, .int .i64 0, .int .i64 0, .slice none 0 0, .slice none 0 0, .bool false] 88 := Box.new _ _ _ rfl
  have hb := up hb1 (.cells #[.int .i64 4, .int .i64 0, .slice none 0 0, .slice none 0 0, .string ⟨#[]⟩, .int .i64 0, .int .i64 0, .slice none 0 0, .slice none 0 0, .bool false] 88)
  generalize w1.alloc (.cells #[.int .i64 4, .int .i64 0, .slice none 0 0, .slice none 0 0, .string ⟨#[]⟩, .int .i64 0, .int .i64 0, .slice none 0 0, .slice none 0 0, .bool false] 88) = W at *
  generalize hRn : w1.heap.size = R at *
  obtain ⟨L, hLn⟩ : ∃ L, w.heap.size + 1 = L := ⟨_, rfl⟩
  rw [hLn] at hL hlt ⊢
  clear hL1 hg1 hA1 hb1 hRn
  have hAL : w.heap.size < L := by omega
  try dsimp only at hN
  try dsimp only at hs1
  obtain ⟨x0, x1, x2, x3, x4, x5, x6, x7, x8, x9⟩ := RecBox.cells hR
  go_upto_region 10 with (first
    | (go_at_call 79; refine (known_all _ _).mono ?_; rintro e W ⟨rfl, rfl⟩)
    | (go_at_call 170
       refine (gang_plain L R L 4 n1 s1 _ _ hs1 hN (by decide) (by decide) (by omega) (Nat.le_refl _) (by omega) hL hR).mono ?_
       rintro e W2 ⟨rfl, hR2, hL2, hg2⟩
       have hA2 := hA.under hg2 hAL
       have hb2 : Below w.heap.size w W2 := hb.trans (hg2.mono (by omega))))
  have hR0 : RdR w.heap.size L R _ _ _ _ _ _ _ _ _ _ _ _ w W2 W2.drew := ⟨hR2, hL2, ⟨_, _, _, _, _, _, _, _, _, _, hA2⟩, hb2.drew, ⟨hAL, hlt⟩, grown_drew (World.grownBy.refl _ _)⟩
  clear hA hL hR hb hA2 hL2 hR2 hb2 x0 x1 x2 x3 x4 x5 x6 x7 x8 x9
  refine wp_region_relyZ (fun w1 => RdR w.heap.size L R (.int .i64 4) (.int .i64 gn) (.slice none 0 0) (.slice none 0 0) (.string ⟨#[]⟩) (.int .i64 0) (.int .i64 0) (.slice none 0 0) (.slice none 0 0) (.bool false) (n2) (s2) w W2 w1) (fun w1 w2 => RdS w.heap.size (.int .i64 4) (.int .i64 gn) (.slice none 0 0) (.slice none 0 0) (.string ⟨#[]⟩) (.int .i64 0) (.int .i64 0) (.slice none 0 0) (.slice none 0 0) (.bool false) w1 w2) (rdF w.heap.size L (.int .i64 4) (.int .i64 gn) (.slice none 0 0) (.slice none 0 0) (.string ⟨#[]⟩) (.int .i64 0) (.int .i64 0) (.slice none 0 0) (.slice none 0 0) (.bool false) (n2)) (by kernel_rfl) (by kernel_rfl) hR0 ?keep ?step ?rest
  case keep =>
    intro i z w1 w2 hS hF
    unfold rdF at *
    split at hF <;> first | exact hF | exact hS.s0 hF
  case step =>
    intro i o ho b w1 hR hold hdep
    have o2 : sl b 2 = .pointer (some ⟨w.heap.size, 0, none⟩) := hold 2 (by kernel_rfl)
    have o4 : sl b 4 = .pointer (some ⟨L, 0, none⟩) := hold 4 (by kernel_rfl)
    have o5 : sl b 5 = .pointer (some ⟨R, 0, none⟩) := hold 5 (by kernel_rfl)
    obtain ⟨x0, x1, x2, x3, x4, x5, x6, x7, x8, x9⟩ := RecBox.cells hR.br
    obtain ⟨y0, y1⟩ := hR.bl.cells2
    have hS := RdS.refl w.heap.size (.int .i64 4) (.int .i64 gn) (.slice none 0 0) (.slice none 0 0) (.string ⟨#[]⟩) (.int .i64 0) (.int .i64 0) (.slice none 0 0) (.slice none 0 0) (.bool false) w1
    rcases i with _ | _ | _ | _ | _ | _ | _ | _ | i
    all_goals try cases ho
    · exact okZ_val rfl rfl (want_none rfl b) (by simp [go_sem, o5, x0, x1, x2, x3, x4, x5, x6, x7, x8, x9]) hR hS rfl
    · exact okZ_val rfl rfl (want_none rfl b) (by simp [go_sem, o4]) hR hS rfl
    · have f39 : sl b 39 = .pointer (some ⟨L, 0, none⟩) := hdep 1 _ rfl (by kernel_rfl)
      exact okZ_val rfl rfl (want_none rfl b) (by simp [go_sem, f39]) hR hS rfl
    · have f40 : sl b 40 = .pointer (some ⟨L, 0, none⟩) := hdep 2 _ rfl (by kernel_rfl)
      exact okZ_val rfl rfl (want_none rfl b) (by simp [go_sem, f40]) hR hS rfl
    · have f41 : sl b 41 = .pointer (some ⟨L, 0, none⟩) := hdep 3 _ rfl (by kernel_rfl)
      exact okZ_val rfl rfl (want_none rfl b) (by simp [go_sem, f41, y0]) hR hS rfl
    · have f42 : sl b 42 = .int .i32 (n2) := hdep 4 _ rfl (by kernel_rfl)
      exact okZ_val rfl rfl (want_none rfl b) (by simp [go_sem, f42]) hR hS rfl
    · have f38 : sl b 38 = .agg #[.int .i64 4, .int .i64 gn, .slice none 0 0, .slice none 0 0, .string ⟨#[]⟩, .int .i64 0, .int .i64 0, .slice none 0 0, .slice none 0 0, .bool false] := hdep 0 _ rfl (by kernel_rfl)
      obtain ⟨d0, d1, d2, d3, d4, d5, d6, d7, d8, d9, hr⟩ := hR.ba
      refine okZ_store rfl rfl (want_none rfl b) (run_store_rec (.tmp 2) (.tmp 38) rfl (by simpa [go_sem] using o2) (by simpa [go_sem] using f38) hr (by kernel_rfl)) ?_ ?_ ?_
      · exact ⟨Box.otherAll (by have := hR.ne; omega) _ _ hR.br, Box.otherAll (by have := hR.ne; omega) _ _ hR.bl, ⟨_, _, _, _, _, _, _, _, _, _, RecBox.setAll hr⟩, below_setAll (Nat.le_refl _) _ _ hR.bel, hR.ne, grown_setAll _ _ hR.gr⟩
      · exact ⟨fun h => RecBox.setAll h⟩
      · exact RecBox.setAll hr
    · have f43 : sl b 43 = .bool ((n2 : Int) == -2) := hdep 5 _ rfl (by kernel_rfl)
      exact okZ_val rfl rfl (want_none rfl b) (by simp [go_sem, f43]) hR hS rfl
  case rest =>
    intro b w1 hR hsz hdf hold hF
    have f2 : sl b 2 = .pointer (some ⟨w.heap.size, 0, none⟩) := hold 2 (by kernel_rfl)
    have f3 : sl b 3 = .bool ((n2 : Int) == -2) := hF 7 _ rfl
    have t0 : Box w1 w.heap.size #[.int .i64 4, .int .i64 gn, .slice none 0 0, .slice none 0 0, .string ⟨#[]⟩, .int .i64 0, .int .i64 0, .slice none 0 0, .slice none 0 0, .bool false] 88 := hF 6 _ rfl
    have hB : b = _ := act_list b (show b.tmps.size = 44 from hsz) hdf
    rw [hB]
    simp only [List.range, List.range.loop, List.map_cons, List.map_nil, f2, f3]
    generalize sl b 0 = v0, sl b 1 = v1, sl b 4 = v4, sl b 5 = v5, sl b 6 = v6, sl b 7 = v7, sl b 8 = v8, sl b 9 = v9, sl b 10 = v10, sl b 11 = v11, sl b 12 = v12, sl b 13 = v13, sl b 14 = v14, sl b 15 = v15, sl b 16 = v16, sl b 17 = v17, sl b 18 = v18, sl b 19 = v19, sl b 20 = v20, sl b 21 = v21, sl b 22 = v22, sl b 23 = v23, sl b 24 = v24, sl b 25 = v25, sl b 26 = v26, sl b 27 = v27, sl b 28 = v28, sl b 29 = v29, sl b 30 = v30, sl b 31 = v31, sl b 32 = v32, sl b 33 = v33, sl b 34 = v34, sl b 35 = v35, sl b 36 = v36, sl b 37 = v37, sl b 38 = v38, sl b 39 = v39, sl b 40 = v40, sl b 41 = v41, sl b 42 = v42, sl b 43 = v43
    obtain ⟨x0, x1, x2, x3, x4, x5, x6, x7, x8, x9⟩ := RecBox.cells t0
    have hbel := hR.bel
    have hgr := hR.gr
    clear hB hold hsz hdf hF f2 f3 hR
    go_wp2
    exact bodyPost_ret (by simp [results, Tryz.results135, go_sem, x0, x1, x2, x3, x4, x5, x6, x7, x8, x9]) rfl ⟨rfl, hbel⟩

set_option maxRecDepth 100000 in
set_option maxHeartbeats 4000000 in
theorem read_five (s : ByteArray) (T : ByteArray × Int × ByteArray) (N : Nat × Int × ByteArray) (w : World) (hs : s.size ≤ 1000000) (hT : wordF (-1) (-1) s = T) (hk : kindR T.1 7 1 = 5) (hN : numF T.2.1 32 T.2.2 = N) (hs1 : T.2.2.size ≤ 1000000) :
    Calls Tryz.prog 135 #[.string s] w fun e w' => e = .returned (.tuple #[.agg #[.int .i64 5, .int .i64 N.1, .slice none 0 0, .slice none 0 0, .string ⟨#[]⟩, .int .i64 0, .int .i64 0, .slice none 0 0, .slice none 0 0, .bool false], .bool (N.2.1 == -2)]) ∧ Below w.heap.size w w' := by
  obtain ⟨gn, n2, s2⟩ := N
  obtain ⟨v, n1, s1⟩ := T
  simp only at hk
  go_enter Tryz.func135, Tryz.ntmps135
  go_upto_region 4 with (first
    | (go_at_call 167
       refine (word_any (w.heap.size + 1) (-1) (-1) s _ _ hs hT (Box.new _ _ _ (by simp))).mono ?_
       rintro e w1 ⟨rfl, hL1, hg1⟩)
    | (go_at_call 166; refine (kindOf_any _ _).mono ?_; rw [hk]; rintro e w1 ⟨rfl, rfl⟩))
  have hA1 : Box w1 w.heap.size #[.int .i64 0, .int .i64 0, .slice none 0 0, .slice none 0 0, .string ⟨#[]⟩, .int .i64 0, .int .i64 0, .slice none 0 0, .slice none 0 0, .bool false] 88 := ((Box.new w _ _ rfl).up _).grown hg1 (by simp)
  have hb1 : Below w.heap.size w w1 := (up (up (Below.refl w.heap.size w) _) _).grown hg1 (by simp; omega) (fun j hj => by cases hj; omega)
  have hlt := hL1.lt
  have hA := hA1.up (.cells #[.int .i64 5, .int .i64 0, .slice none 0 0, .slice none 0 0, .string ⟨#[]⟩, .int .i64 0, .int .i64 0, .slice none 0 0, .slice none 0 0, .bool false] 88)
  have hL := hL1.up (.cells #[.int .i64 5, .int .i64 0, .slice none 0 0, .slice none 0 0, .string ⟨#[]⟩, .int .i64 0, .int .i64 0, .slice none 0 0, .slice none 0 0, .bool false] 88)
  have hR : Box (w1.alloc (.cells #[.int .i64 5, .int .i64 0, .slice none 0 0, .slice none 0 0, .string ⟨#[]⟩, .int .i64 0, .int .i64 0, .slice none 0 0, .slice none 0 0, .bool false] 88)) w1.heap.size #[.int .i64 5, .int .i64 0, .slice none 0 0, .slice none 0 0, .string ⟨#[]⟩, .int .i64 0, .int .i64 0, .slice none 0 0, .slice none 0 0, .bool false] 88 := Box.new _ _ _ rfl
  have hb := up hb1 (.cells #[.int .i64 5, .int .i64 0, .slice none 0 0, .slice none 0 0, .string ⟨#[]⟩, .int .i64 0, .int .i64 0, .slice none 0 0, .slice none 0 0, .bool false] 88)
  generalize w1.alloc (.cells #[.int .i64 5, .int .i64 0, .slice none 0 0, .slice none 0 0, .string ⟨#[]⟩, .int .i64 0, .int .i64 0, .slice none 0 0, .slice none 0 0, .bool false] 88) = W at *
  generalize hRn : w1.heap.size = R at *
  obtain ⟨L, hLn⟩ : ∃ L, w.heap.size + 1 = L := ⟨_, rfl⟩
  rw [hLn] at hL hlt ⊢
  clear hL1 hg1 hA1 hb1 hRn
  have hAL : w.heap.size < L := by omega
  try dsimp only at hN
  try dsimp only at hs1
  obtain ⟨x0, x1, x2, x3, x4, x5, x6, x7, x8, x9⟩ := RecBox.cells hR
  go_upto_region 10 with (first
    | (go_at_call 79; refine (known_all _ _).mono ?_; rintro e W ⟨rfl, rfl⟩)
    | (go_at_call 170
       refine (gang_plain L R L 5 n1 s1 _ _ hs1 hN (by decide) (by decide) (by omega) (Nat.le_refl _) (by omega) hL hR).mono ?_
       rintro e W2 ⟨rfl, hR2, hL2, hg2⟩
       have hA2 := hA.under hg2 hAL
       have hb2 : Below w.heap.size w W2 := hb.trans (hg2.mono (by omega))))
  have hR0 : RdR w.heap.size L R _ _ _ _ _ _ _ _ _ _ _ _ w W2 W2.drew := ⟨hR2, hL2, ⟨_, _, _, _, _, _, _, _, _, _, hA2⟩, hb2.drew, ⟨hAL, hlt⟩, grown_drew (World.grownBy.refl _ _)⟩
  clear hA hL hR hb hA2 hL2 hR2 hb2 x0 x1 x2 x3 x4 x5 x6 x7 x8 x9
  refine wp_region_relyZ (fun w1 => RdR w.heap.size L R (.int .i64 5) (.int .i64 gn) (.slice none 0 0) (.slice none 0 0) (.string ⟨#[]⟩) (.int .i64 0) (.int .i64 0) (.slice none 0 0) (.slice none 0 0) (.bool false) (n2) (s2) w W2 w1) (fun w1 w2 => RdS w.heap.size (.int .i64 5) (.int .i64 gn) (.slice none 0 0) (.slice none 0 0) (.string ⟨#[]⟩) (.int .i64 0) (.int .i64 0) (.slice none 0 0) (.slice none 0 0) (.bool false) w1 w2) (rdF w.heap.size L (.int .i64 5) (.int .i64 gn) (.slice none 0 0) (.slice none 0 0) (.string ⟨#[]⟩) (.int .i64 0) (.int .i64 0) (.slice none 0 0) (.slice none 0 0) (.bool false) (n2)) (by kernel_rfl) (by kernel_rfl) hR0 ?keep ?step ?rest
  case keep =>
    intro i z w1 w2 hS hF
    unfold rdF at *
    split at hF <;> first | exact hF | exact hS.s0 hF
  case step =>
    intro i o ho b w1 hR hold hdep
    have o2 : sl b 2 = .pointer (some ⟨w.heap.size, 0, none⟩) := hold 2 (by kernel_rfl)
    have o4 : sl b 4 = .pointer (some ⟨L, 0, none⟩) := hold 4 (by kernel_rfl)
    have o5 : sl b 5 = .pointer (some ⟨R, 0, none⟩) := hold 5 (by kernel_rfl)
    obtain ⟨x0, x1, x2, x3, x4, x5, x6, x7, x8, x9⟩ := RecBox.cells hR.br
    obtain ⟨y0, y1⟩ := hR.bl.cells2
    have hS := RdS.refl w.heap.size (.int .i64 5) (.int .i64 gn) (.slice none 0 0) (.slice none 0 0) (.string ⟨#[]⟩) (.int .i64 0) (.int .i64 0) (.slice none 0 0) (.slice none 0 0) (.bool false) w1
    rcases i with _ | _ | _ | _ | _ | _ | _ | _ | i
    all_goals try cases ho
    · exact okZ_val rfl rfl (want_none rfl b) (by simp [go_sem, o5, x0, x1, x2, x3, x4, x5, x6, x7, x8, x9]) hR hS rfl
    · exact okZ_val rfl rfl (want_none rfl b) (by simp [go_sem, o4]) hR hS rfl
    · have f39 : sl b 39 = .pointer (some ⟨L, 0, none⟩) := hdep 1 _ rfl (by kernel_rfl)
      exact okZ_val rfl rfl (want_none rfl b) (by simp [go_sem, f39]) hR hS rfl
    · have f40 : sl b 40 = .pointer (some ⟨L, 0, none⟩) := hdep 2 _ rfl (by kernel_rfl)
      exact okZ_val rfl rfl (want_none rfl b) (by simp [go_sem, f40]) hR hS rfl
    · have f41 : sl b 41 = .pointer (some ⟨L, 0, none⟩) := hdep 3 _ rfl (by kernel_rfl)
      exact okZ_val rfl rfl (want_none rfl b) (by simp [go_sem, f41, y0]) hR hS rfl
    · have f42 : sl b 42 = .int .i32 (n2) := hdep 4 _ rfl (by kernel_rfl)
      exact okZ_val rfl rfl (want_none rfl b) (by simp [go_sem, f42]) hR hS rfl
    · have f38 : sl b 38 = .agg #[.int .i64 5, .int .i64 gn, .slice none 0 0, .slice none 0 0, .string ⟨#[]⟩, .int .i64 0, .int .i64 0, .slice none 0 0, .slice none 0 0, .bool false] := hdep 0 _ rfl (by kernel_rfl)
      obtain ⟨d0, d1, d2, d3, d4, d5, d6, d7, d8, d9, hr⟩ := hR.ba
      refine okZ_store rfl rfl (want_none rfl b) (run_store_rec (.tmp 2) (.tmp 38) rfl (by simpa [go_sem] using o2) (by simpa [go_sem] using f38) hr (by kernel_rfl)) ?_ ?_ ?_
      · exact ⟨Box.otherAll (by have := hR.ne; omega) _ _ hR.br, Box.otherAll (by have := hR.ne; omega) _ _ hR.bl, ⟨_, _, _, _, _, _, _, _, _, _, RecBox.setAll hr⟩, below_setAll (Nat.le_refl _) _ _ hR.bel, hR.ne, grown_setAll _ _ hR.gr⟩
      · exact ⟨fun h => RecBox.setAll h⟩
      · exact RecBox.setAll hr
    · have f43 : sl b 43 = .bool ((n2 : Int) == -2) := hdep 5 _ rfl (by kernel_rfl)
      exact okZ_val rfl rfl (want_none rfl b) (by simp [go_sem, f43]) hR hS rfl
  case rest =>
    intro b w1 hR hsz hdf hold hF
    have f2 : sl b 2 = .pointer (some ⟨w.heap.size, 0, none⟩) := hold 2 (by kernel_rfl)
    have f3 : sl b 3 = .bool ((n2 : Int) == -2) := hF 7 _ rfl
    have t0 : Box w1 w.heap.size #[.int .i64 5, .int .i64 gn, .slice none 0 0, .slice none 0 0, .string ⟨#[]⟩, .int .i64 0, .int .i64 0, .slice none 0 0, .slice none 0 0, .bool false] 88 := hF 6 _ rfl
    have hB : b = _ := act_list b (show b.tmps.size = 44 from hsz) hdf
    rw [hB]
    simp only [List.range, List.range.loop, List.map_cons, List.map_nil, f2, f3]
    generalize sl b 0 = v0, sl b 1 = v1, sl b 4 = v4, sl b 5 = v5, sl b 6 = v6, sl b 7 = v7, sl b 8 = v8, sl b 9 = v9, sl b 10 = v10, sl b 11 = v11, sl b 12 = v12, sl b 13 = v13, sl b 14 = v14, sl b 15 = v15, sl b 16 = v16, sl b 17 = v17, sl b 18 = v18, sl b 19 = v19, sl b 20 = v20, sl b 21 = v21, sl b 22 = v22, sl b 23 = v23, sl b 24 = v24, sl b 25 = v25, sl b 26 = v26, sl b 27 = v27, sl b 28 = v28, sl b 29 = v29, sl b 30 = v30, sl b 31 = v31, sl b 32 = v32, sl b 33 = v33, sl b 34 = v34, sl b 35 = v35, sl b 36 = v36, sl b 37 = v37, sl b 38 = v38, sl b 39 = v39, sl b 40 = v40, sl b 41 = v41, sl b 42 = v42, sl b 43 = v43
    obtain ⟨x0, x1, x2, x3, x4, x5, x6, x7, x8, x9⟩ := RecBox.cells t0
    have hbel := hR.bel
    have hgr := hR.gr
    clear hB hold hsz hdf hF f2 f3 hR
    go_wp2
    exact bodyPost_ret (by simp [results, Tryz.results135, go_sem, x0, x1, x2, x3, x4, x5, x6, x7, x8, x9]) rfl ⟨rfl, hbel⟩

set_option maxRecDepth 100000 in
set_option maxHeartbeats 4000000 in
theorem read_six (s : ByteArray) (T : ByteArray × Int × ByteArray) (N : Nat × Int × ByteArray) (w : World) (hs : s.size ≤ 1000000) (hT : wordF (-1) (-1) s = T) (hk : kindR T.1 7 1 = 6) (hN : numF T.2.1 32 T.2.2 = N) (hs1 : T.2.2.size ≤ 1000000) :
    Calls Tryz.prog 135 #[.string s] w fun e w' => e = .returned (.tuple #[.agg #[.int .i64 6, .int .i64 N.1, .slice none 0 0, .slice none 0 0, .string ⟨#[]⟩, .int .i64 0, .int .i64 0, .slice none 0 0, .slice none 0 0, .bool false], .bool (N.2.1 == -2)]) ∧ Below w.heap.size w w' := by
  obtain ⟨gn, n2, s2⟩ := N
  obtain ⟨v, n1, s1⟩ := T
  simp only at hk
  go_enter Tryz.func135, Tryz.ntmps135
  go_upto_region 4 with (first
    | (go_at_call 167
       refine (word_any (w.heap.size + 1) (-1) (-1) s _ _ hs hT (Box.new _ _ _ (by simp))).mono ?_
       rintro e w1 ⟨rfl, hL1, hg1⟩)
    | (go_at_call 166; refine (kindOf_any _ _).mono ?_; rw [hk]; rintro e w1 ⟨rfl, rfl⟩))
  have hA1 : Box w1 w.heap.size #[.int .i64 0, .int .i64 0, .slice none 0 0, .slice none 0 0, .string ⟨#[]⟩, .int .i64 0, .int .i64 0, .slice none 0 0, .slice none 0 0, .bool false] 88 := ((Box.new w _ _ rfl).up _).grown hg1 (by simp)
  have hb1 : Below w.heap.size w w1 := (up (up (Below.refl w.heap.size w) _) _).grown hg1 (by simp; omega) (fun j hj => by cases hj; omega)
  have hlt := hL1.lt
  have hA := hA1.up (.cells #[.int .i64 6, .int .i64 0, .slice none 0 0, .slice none 0 0, .string ⟨#[]⟩, .int .i64 0, .int .i64 0, .slice none 0 0, .slice none 0 0, .bool false] 88)
  have hL := hL1.up (.cells #[.int .i64 6, .int .i64 0, .slice none 0 0, .slice none 0 0, .string ⟨#[]⟩, .int .i64 0, .int .i64 0, .slice none 0 0, .slice none 0 0, .bool false] 88)
  have hR : Box (w1.alloc (.cells #[.int .i64 6, .int .i64 0, .slice none 0 0, .slice none 0 0, .string ⟨#[]⟩, .int .i64 0, .int .i64 0, .slice none 0 0, .slice none 0 0, .bool false] 88)) w1.heap.size #[.int .i64 6, .int .i64 0, .slice none 0 0, .slice none 0 0, .string ⟨#[]⟩, .int .i64 0, .int .i64 0, .slice none 0 0, .slice none 0 0, .bool false] 88 := Box.new _ _ _ rfl
  have hb := up hb1 (.cells #[.int .i64 6, .int .i64 0, .slice none 0 0, .slice none 0 0, .string ⟨#[]⟩, .int .i64 0, .int .i64 0, .slice none 0 0, .slice none 0 0, .bool false] 88)
  generalize w1.alloc (.cells #[.int .i64 6, .int .i64 0, .slice none 0 0, .slice none 0 0, .string ⟨#[]⟩, .int .i64 0, .int .i64 0, .slice none 0 0, .slice none 0 0, .bool false] 88) = W at *
  generalize hRn : w1.heap.size = R at *
  obtain ⟨L, hLn⟩ : ∃ L, w.heap.size + 1 = L := ⟨_, rfl⟩
  rw [hLn] at hL hlt ⊢
  clear hL1 hg1 hA1 hb1 hRn
  have hAL : w.heap.size < L := by omega
  try dsimp only at hN
  try dsimp only at hs1
  obtain ⟨x0, x1, x2, x3, x4, x5, x6, x7, x8, x9⟩ := RecBox.cells hR
  go_upto_region 10 with (first
    | (go_at_call 79; refine (known_all _ _).mono ?_; rintro e W ⟨rfl, rfl⟩)
    | (go_at_call 170
       refine (gang_plain L R L 6 n1 s1 _ _ hs1 hN (by decide) (by decide) (by omega) (Nat.le_refl _) (by omega) hL hR).mono ?_
       rintro e W2 ⟨rfl, hR2, hL2, hg2⟩
       have hA2 := hA.under hg2 hAL
       have hb2 : Below w.heap.size w W2 := hb.trans (hg2.mono (by omega))))
  have hR0 : RdR w.heap.size L R _ _ _ _ _ _ _ _ _ _ _ _ w W2 W2.drew := ⟨hR2, hL2, ⟨_, _, _, _, _, _, _, _, _, _, hA2⟩, hb2.drew, ⟨hAL, hlt⟩, grown_drew (World.grownBy.refl _ _)⟩
  clear hA hL hR hb hA2 hL2 hR2 hb2 x0 x1 x2 x3 x4 x5 x6 x7 x8 x9
  refine wp_region_relyZ (fun w1 => RdR w.heap.size L R (.int .i64 6) (.int .i64 gn) (.slice none 0 0) (.slice none 0 0) (.string ⟨#[]⟩) (.int .i64 0) (.int .i64 0) (.slice none 0 0) (.slice none 0 0) (.bool false) (n2) (s2) w W2 w1) (fun w1 w2 => RdS w.heap.size (.int .i64 6) (.int .i64 gn) (.slice none 0 0) (.slice none 0 0) (.string ⟨#[]⟩) (.int .i64 0) (.int .i64 0) (.slice none 0 0) (.slice none 0 0) (.bool false) w1 w2) (rdF w.heap.size L (.int .i64 6) (.int .i64 gn) (.slice none 0 0) (.slice none 0 0) (.string ⟨#[]⟩) (.int .i64 0) (.int .i64 0) (.slice none 0 0) (.slice none 0 0) (.bool false) (n2)) (by kernel_rfl) (by kernel_rfl) hR0 ?keep ?step ?rest
  case keep =>
    intro i z w1 w2 hS hF
    unfold rdF at *
    split at hF <;> first | exact hF | exact hS.s0 hF
  case step =>
    intro i o ho b w1 hR hold hdep
    have o2 : sl b 2 = .pointer (some ⟨w.heap.size, 0, none⟩) := hold 2 (by kernel_rfl)
    have o4 : sl b 4 = .pointer (some ⟨L, 0, none⟩) := hold 4 (by kernel_rfl)
    have o5 : sl b 5 = .pointer (some ⟨R, 0, none⟩) := hold 5 (by kernel_rfl)
    obtain ⟨x0, x1, x2, x3, x4, x5, x6, x7, x8, x9⟩ := RecBox.cells hR.br
    obtain ⟨y0, y1⟩ := hR.bl.cells2
    have hS := RdS.refl w.heap.size (.int .i64 6) (.int .i64 gn) (.slice none 0 0) (.slice none 0 0) (.string ⟨#[]⟩) (.int .i64 0) (.int .i64 0) (.slice none 0 0) (.slice none 0 0) (.bool false) w1
    rcases i with _ | _ | _ | _ | _ | _ | _ | _ | i
    all_goals try cases ho
    · exact okZ_val rfl rfl (want_none rfl b) (by simp [go_sem, o5, x0, x1, x2, x3, x4, x5, x6, x7, x8, x9]) hR hS rfl
    · exact okZ_val rfl rfl (want_none rfl b) (by simp [go_sem, o4]) hR hS rfl
    · have f39 : sl b 39 = .pointer (some ⟨L, 0, none⟩) := hdep 1 _ rfl (by kernel_rfl)
      exact okZ_val rfl rfl (want_none rfl b) (by simp [go_sem, f39]) hR hS rfl
    · have f40 : sl b 40 = .pointer (some ⟨L, 0, none⟩) := hdep 2 _ rfl (by kernel_rfl)
      exact okZ_val rfl rfl (want_none rfl b) (by simp [go_sem, f40]) hR hS rfl
    · have f41 : sl b 41 = .pointer (some ⟨L, 0, none⟩) := hdep 3 _ rfl (by kernel_rfl)
      exact okZ_val rfl rfl (want_none rfl b) (by simp [go_sem, f41, y0]) hR hS rfl
    · have f42 : sl b 42 = .int .i32 (n2) := hdep 4 _ rfl (by kernel_rfl)
      exact okZ_val rfl rfl (want_none rfl b) (by simp [go_sem, f42]) hR hS rfl
    · have f38 : sl b 38 = .agg #[.int .i64 6, .int .i64 gn, .slice none 0 0, .slice none 0 0, .string ⟨#[]⟩, .int .i64 0, .int .i64 0, .slice none 0 0, .slice none 0 0, .bool false] := hdep 0 _ rfl (by kernel_rfl)
      obtain ⟨d0, d1, d2, d3, d4, d5, d6, d7, d8, d9, hr⟩ := hR.ba
      refine okZ_store rfl rfl (want_none rfl b) (run_store_rec (.tmp 2) (.tmp 38) rfl (by simpa [go_sem] using o2) (by simpa [go_sem] using f38) hr (by kernel_rfl)) ?_ ?_ ?_
      · exact ⟨Box.otherAll (by have := hR.ne; omega) _ _ hR.br, Box.otherAll (by have := hR.ne; omega) _ _ hR.bl, ⟨_, _, _, _, _, _, _, _, _, _, RecBox.setAll hr⟩, below_setAll (Nat.le_refl _) _ _ hR.bel, hR.ne, grown_setAll _ _ hR.gr⟩
      · exact ⟨fun h => RecBox.setAll h⟩
      · exact RecBox.setAll hr
    · have f43 : sl b 43 = .bool ((n2 : Int) == -2) := hdep 5 _ rfl (by kernel_rfl)
      exact okZ_val rfl rfl (want_none rfl b) (by simp [go_sem, f43]) hR hS rfl
  case rest =>
    intro b w1 hR hsz hdf hold hF
    have f2 : sl b 2 = .pointer (some ⟨w.heap.size, 0, none⟩) := hold 2 (by kernel_rfl)
    have f3 : sl b 3 = .bool ((n2 : Int) == -2) := hF 7 _ rfl
    have t0 : Box w1 w.heap.size #[.int .i64 6, .int .i64 gn, .slice none 0 0, .slice none 0 0, .string ⟨#[]⟩, .int .i64 0, .int .i64 0, .slice none 0 0, .slice none 0 0, .bool false] 88 := hF 6 _ rfl
    have hB : b = _ := act_list b (show b.tmps.size = 44 from hsz) hdf
    rw [hB]
    simp only [List.range, List.range.loop, List.map_cons, List.map_nil, f2, f3]
    generalize sl b 0 = v0, sl b 1 = v1, sl b 4 = v4, sl b 5 = v5, sl b 6 = v6, sl b 7 = v7, sl b 8 = v8, sl b 9 = v9, sl b 10 = v10, sl b 11 = v11, sl b 12 = v12, sl b 13 = v13, sl b 14 = v14, sl b 15 = v15, sl b 16 = v16, sl b 17 = v17, sl b 18 = v18, sl b 19 = v19, sl b 20 = v20, sl b 21 = v21, sl b 22 = v22, sl b 23 = v23, sl b 24 = v24, sl b 25 = v25, sl b 26 = v26, sl b 27 = v27, sl b 28 = v28, sl b 29 = v29, sl b 30 = v30, sl b 31 = v31, sl b 32 = v32, sl b 33 = v33, sl b 34 = v34, sl b 35 = v35, sl b 36 = v36, sl b 37 = v37, sl b 38 = v38, sl b 39 = v39, sl b 40 = v40, sl b 41 = v41, sl b 42 = v42, sl b 43 = v43
    obtain ⟨x0, x1, x2, x3, x4, x5, x6, x7, x8, x9⟩ := RecBox.cells t0
    have hbel := hR.bel
    have hgr := hR.gr
    clear hB hold hsz hdf hF f2 f3 hR
    go_wp2
    exact bodyPost_ret (by simp [results, Tryz.results135, go_sem, x0, x1, x2, x3, x4, x5, x6, x7, x8, x9]) rfl ⟨rfl, hbel⟩

end Go.Proofs.YtlehlbgaboifoabGreatDoor

/- The contract of read of package line: a line of one that is gone, of a gang, of one that is prepared. -/
namespace Go.Proofs.YtlehlbgaboifoabGreatDoor
open Go.RowKit
set_option linter.unusedSimpArgs false
set_option linter.unusedVariables false

set_option maxRecDepth 100000 in
set_option maxHeartbeats 4000000 in
theorem read_gone (s : ByteArray) (T : ByteArray × Int × ByteArray) (N : ByteArray × Int × ByteArray) (w : World) (hs : s.size ≤ 1000000) (hT : wordF (-1) (-1) s = T) (hk : kindR T.1 7 1 = 2) (hN : wordF T.2.1 32 T.2.2 = N) (hs1 : T.2.2.size ≤ 1000000) :
    Calls Tryz.prog 135 #[.string s] w fun e w' => e = .returned (.tuple #[.agg #[.int .i64 2, .int .i64 0, .slice none 0 0, .slice none 0 0, .string N.1, .int .i64 0, .int .i64 0, .slice none 0 0, .slice none 0 0, .bool false], .bool (N.2.1 == -2)]) ∧ Below w.heap.size w w' := by
  obtain ⟨nm, n2, s2⟩ := N
  obtain ⟨v, n1, s1⟩ := T
  simp only at hk
  go_enter Tryz.func135, Tryz.ntmps135
  go_upto_region 4 with (first
    | (go_at_call 167
       refine (word_any (w.heap.size + 1) (-1) (-1) s _ _ hs hT (Box.new _ _ _ (by simp))).mono ?_
       rintro e w1 ⟨rfl, hL1, hg1⟩)
    | (go_at_call 166; refine (kindOf_any _ _).mono ?_; rw [hk]; rintro e w1 ⟨rfl, rfl⟩))
  have hA1 : Box w1 w.heap.size #[.int .i64 0, .int .i64 0, .slice none 0 0, .slice none 0 0, .string ⟨#[]⟩, .int .i64 0, .int .i64 0, .slice none 0 0, .slice none 0 0, .bool false] 88 := ((Box.new w _ _ rfl).up _).grown hg1 (by simp)
  have hb1 : Below w.heap.size w w1 := (up (up (Below.refl w.heap.size w) _) _).grown hg1 (by simp; omega) (fun j hj => by cases hj; omega)
  have hlt := hL1.lt
  have hA := hA1.up (.cells #[.int .i64 2, .int .i64 0, .slice none 0 0, .slice none 0 0, .string ⟨#[]⟩, .int .i64 0, .int .i64 0, .slice none 0 0, .slice none 0 0, .bool false] 88)
  have hL := hL1.up (.cells #[.int .i64 2, .int .i64 0, .slice none 0 0, .slice none 0 0, .string ⟨#[]⟩, .int .i64 0, .int .i64 0, .slice none 0 0, .slice none 0 0, .bool false] 88)
  have hR : Box (w1.alloc (.cells #[.int .i64 2, .int .i64 0, .slice none 0 0, .slice none 0 0, .string ⟨#[]⟩, .int .i64 0, .int .i64 0, .slice none 0 0, .slice none 0 0, .bool false] 88)) w1.heap.size #[.int .i64 2, .int .i64 0, .slice none 0 0, .slice none 0 0, .string ⟨#[]⟩, .int .i64 0, .int .i64 0, .slice none 0 0, .slice none 0 0, .bool false] 88 := Box.new _ _ _ rfl
  have hb := up hb1 (.cells #[.int .i64 2, .int .i64 0, .slice none 0 0, .slice none 0 0, .string ⟨#[]⟩, .int .i64 0, .int .i64 0, .slice none 0 0, .slice none 0 0, .bool false] 88)
  generalize w1.alloc (.cells #[.int .i64 2, .int .i64 0, .slice none 0 0, .slice none 0 0, .string ⟨#[]⟩, .int .i64 0, .int .i64 0, .slice none 0 0, .slice none 0 0, .bool false] 88) = W at *
  generalize hRn : w1.heap.size = R at *
  obtain ⟨L, hLn⟩ : ∃ L, w.heap.size + 1 = L := ⟨_, rfl⟩
  rw [hLn] at hL hlt ⊢
  clear hL1 hg1 hA1 hb1 hRn
  have hAL : w.heap.size < L := by omega
  try dsimp only at hN
  try dsimp only at hs1
  obtain ⟨x0, x1, x2, x3, x4, x5, x6, x7, x8, x9⟩ := RecBox.cells hR
  go_upto_region 10 with (first
    | (go_at_call 79; refine (known_all _ _).mono ?_; rintro e W ⟨rfl, rfl⟩)
    | (go_at_call 169
       refine (rname_any L n1 32 s1 _ _ hs1 hN hL).mono ?_
       rintro e W3 ⟨rfl, hL3, hg3⟩
       have hR3 := hR.grown hg3 (by simp; omega)
       have hA3 := hA.grown hg3 (by simp; omega)
       have hb3 : Below w.heap.size w W3 := hb.grown hg3 hb.size (fun j hj => by cases hj; omega)
       clear x0 x1 x2 x3 x4 x5 x6 x7 x8 x9
       obtain ⟨x0, x1, x2, x3, x4, x5, x6, x7, x8, x9⟩ := RecBox.cells hR3
       have fr4 := hR3.frozen 4
       have hR2 : RecBox (W3.setCell ⟨R, 4, none⟩ (.string nm)) R (.int .i64 2) (.int .i64 0) (.slice none 0 0) (.slice none 0 0) (.string nm) (.int .i64 0) (.int .i64 0) (.slice none 0 0) (.slice none 0 0) (.bool false) := hR3.set 4 _
       have hL2 := hL3.other (b := R) (by omega) 4 (.string nm)
       have hA2 := hA3.other (b := R) (by omega) 4 (.string nm)
       have hb2 := hb3.setCell (p := ⟨R, 4, none⟩) (by simp; omega) (.string nm)))
  generalize W3.setCell ⟨R, 4, none⟩ (.string nm) = W2 at *
  have hR0 : RdR w.heap.size L R _ _ _ _ _ _ _ _ _ _ _ _ w W2 W2.drew := ⟨hR2, hL2, ⟨_, _, _, _, _, _, _, _, _, _, hA2⟩, hb2.drew, ⟨hAL, hlt⟩, grown_drew (World.grownBy.refl _ _)⟩
  clear hA hL hR hb hA2 hL2 hR2 hb2 hA3 hL3 hR3 hb3 hg3 fr4 x0 x1 x2 x3 x4 x5 x6 x7 x8 x9
  refine wp_region_relyZ (fun w1 => RdR w.heap.size L R (.int .i64 2) (.int .i64 0) (.slice none 0 0) (.slice none 0 0) (.string nm) (.int .i64 0) (.int .i64 0) (.slice none 0 0) (.slice none 0 0) (.bool false) (n2) (s2) w W2 w1) (fun w1 w2 => RdS w.heap.size (.int .i64 2) (.int .i64 0) (.slice none 0 0) (.slice none 0 0) (.string nm) (.int .i64 0) (.int .i64 0) (.slice none 0 0) (.slice none 0 0) (.bool false) w1 w2) (rdF w.heap.size L (.int .i64 2) (.int .i64 0) (.slice none 0 0) (.slice none 0 0) (.string nm) (.int .i64 0) (.int .i64 0) (.slice none 0 0) (.slice none 0 0) (.bool false) (n2)) (by kernel_rfl) (by kernel_rfl) hR0 ?keep ?step ?rest
  case keep =>
    intro i z w1 w2 hS hF
    unfold rdF at *
    split at hF <;> first | exact hF | exact hS.s0 hF
  case step =>
    intro i o ho b w1 hR hold hdep
    have o2 : sl b 2 = .pointer (some ⟨w.heap.size, 0, none⟩) := hold 2 (by kernel_rfl)
    have o4 : sl b 4 = .pointer (some ⟨L, 0, none⟩) := hold 4 (by kernel_rfl)
    have o5 : sl b 5 = .pointer (some ⟨R, 0, none⟩) := hold 5 (by kernel_rfl)
    obtain ⟨x0, x1, x2, x3, x4, x5, x6, x7, x8, x9⟩ := RecBox.cells hR.br
    obtain ⟨y0, y1⟩ := hR.bl.cells2
    have hS := RdS.refl w.heap.size (.int .i64 2) (.int .i64 0) (.slice none 0 0) (.slice none 0 0) (.string nm) (.int .i64 0) (.int .i64 0) (.slice none 0 0) (.slice none 0 0) (.bool false) w1
    rcases i with _ | _ | _ | _ | _ | _ | _ | _ | i
    all_goals try cases ho
    · exact okZ_val rfl rfl (want_none rfl b) (by simp [go_sem, o5, x0, x1, x2, x3, x4, x5, x6, x7, x8, x9]) hR hS rfl
    · exact okZ_val rfl rfl (want_none rfl b) (by simp [go_sem, o4]) hR hS rfl
    · have f39 : sl b 39 = .pointer (some ⟨L, 0, none⟩) := hdep 1 _ rfl (by kernel_rfl)
      exact okZ_val rfl rfl (want_none rfl b) (by simp [go_sem, f39]) hR hS rfl
    · have f40 : sl b 40 = .pointer (some ⟨L, 0, none⟩) := hdep 2 _ rfl (by kernel_rfl)
      exact okZ_val rfl rfl (want_none rfl b) (by simp [go_sem, f40]) hR hS rfl
    · have f41 : sl b 41 = .pointer (some ⟨L, 0, none⟩) := hdep 3 _ rfl (by kernel_rfl)
      exact okZ_val rfl rfl (want_none rfl b) (by simp [go_sem, f41, y0]) hR hS rfl
    · have f42 : sl b 42 = .int .i32 (n2) := hdep 4 _ rfl (by kernel_rfl)
      exact okZ_val rfl rfl (want_none rfl b) (by simp [go_sem, f42]) hR hS rfl
    · have f38 : sl b 38 = .agg #[.int .i64 2, .int .i64 0, .slice none 0 0, .slice none 0 0, .string nm, .int .i64 0, .int .i64 0, .slice none 0 0, .slice none 0 0, .bool false] := hdep 0 _ rfl (by kernel_rfl)
      obtain ⟨d0, d1, d2, d3, d4, d5, d6, d7, d8, d9, hr⟩ := hR.ba
      refine okZ_store rfl rfl (want_none rfl b) (run_store_rec (.tmp 2) (.tmp 38) rfl (by simpa [go_sem] using o2) (by simpa [go_sem] using f38) hr (by kernel_rfl)) ?_ ?_ ?_
      · exact ⟨Box.otherAll (by have := hR.ne; omega) _ _ hR.br, Box.otherAll (by have := hR.ne; omega) _ _ hR.bl, ⟨_, _, _, _, _, _, _, _, _, _, RecBox.setAll hr⟩, below_setAll (Nat.le_refl _) _ _ hR.bel, hR.ne, grown_setAll _ _ hR.gr⟩
      · exact ⟨fun h => RecBox.setAll h⟩
      · exact RecBox.setAll hr
    · have f43 : sl b 43 = .bool ((n2 : Int) == -2) := hdep 5 _ rfl (by kernel_rfl)
      exact okZ_val rfl rfl (want_none rfl b) (by simp [go_sem, f43]) hR hS rfl
  case rest =>
    intro b w1 hR hsz hdf hold hF
    have f2 : sl b 2 = .pointer (some ⟨w.heap.size, 0, none⟩) := hold 2 (by kernel_rfl)
    have f3 : sl b 3 = .bool ((n2 : Int) == -2) := hF 7 _ rfl
    have t0 : Box w1 w.heap.size #[.int .i64 2, .int .i64 0, .slice none 0 0, .slice none 0 0, .string nm, .int .i64 0, .int .i64 0, .slice none 0 0, .slice none 0 0, .bool false] 88 := hF 6 _ rfl
    have hB : b = _ := act_list b (show b.tmps.size = 44 from hsz) hdf
    rw [hB]
    simp only [List.range, List.range.loop, List.map_cons, List.map_nil, f2, f3]
    generalize sl b 0 = v0, sl b 1 = v1, sl b 4 = v4, sl b 5 = v5, sl b 6 = v6, sl b 7 = v7, sl b 8 = v8, sl b 9 = v9, sl b 10 = v10, sl b 11 = v11, sl b 12 = v12, sl b 13 = v13, sl b 14 = v14, sl b 15 = v15, sl b 16 = v16, sl b 17 = v17, sl b 18 = v18, sl b 19 = v19, sl b 20 = v20, sl b 21 = v21, sl b 22 = v22, sl b 23 = v23, sl b 24 = v24, sl b 25 = v25, sl b 26 = v26, sl b 27 = v27, sl b 28 = v28, sl b 29 = v29, sl b 30 = v30, sl b 31 = v31, sl b 32 = v32, sl b 33 = v33, sl b 34 = v34, sl b 35 = v35, sl b 36 = v36, sl b 37 = v37, sl b 38 = v38, sl b 39 = v39, sl b 40 = v40, sl b 41 = v41, sl b 42 = v42, sl b 43 = v43
    obtain ⟨x0, x1, x2, x3, x4, x5, x6, x7, x8, x9⟩ := RecBox.cells t0
    have hbel := hR.bel
    have hgr := hR.gr
    clear hB hold hsz hdf hF f2 f3 hR
    go_wp2
    exact bodyPost_ret (by simp [results, Tryz.results135, go_sem, x0, x1, x2, x3, x4, x5, x6, x7, x8, x9]) rfl ⟨rfl, hbel⟩

set_option maxRecDepth 100000 in
set_option maxHeartbeats 4000000 in
theorem read_seven (s : ByteArray) (T : ByteArray × Int × ByteArray) (N : Nat × Int × ByteArray) (S : List Nat × Int × ByteArray) (w : World) (hs : s.size ≤ 1000000) (hT : wordF (-1) (-1) s = T) (hk : kindR T.1 7 1 = 7) (hN : numF T.2.1 32 T.2.2 = N) (hP : peersF N.2.1 N.2.2 = S) (hs1 : T.2.2.size ≤ 1000000) :
    Calls Tryz.prog 135 #[.string s] w fun e w' => ∃ pv, e = .returned (.tuple #[.agg #[.int .i64 7, .int .i64 N.1, pv, .slice none 0 0, .string ⟨#[]⟩, .int .i64 0, .int .i64 0, .slice none 0 0, .slice none 0 0, .bool false], .bool (S.2.1 == -2)]) ∧ w'.ownsRow (w.heap.size + 1) 3 1 pv S.1.length (S.1.map natV) ∧ Below w.heap.size w w' := by
  obtain ⟨gn, n2, s2⟩ := N
  obtain ⟨ps, n3, s3⟩ := S
  obtain ⟨v, n1, s1⟩ := T
  simp only at hk
  go_enter Tryz.func135, Tryz.ntmps135
  go_upto_region 4 with (first
    | (go_at_call 167
       refine (word_any (w.heap.size + 1) (-1) (-1) s _ _ hs hT (Box.new _ _ _ (by simp))).mono ?_
       rintro e w1 ⟨rfl, hL1, hg1⟩)
    | (go_at_call 166; refine (kindOf_any _ _).mono ?_; rw [hk]; rintro e w1 ⟨rfl, rfl⟩))
  have hA1 : Box w1 w.heap.size #[.int .i64 0, .int .i64 0, .slice none 0 0, .slice none 0 0, .string ⟨#[]⟩, .int .i64 0, .int .i64 0, .slice none 0 0, .slice none 0 0, .bool false] 88 := ((Box.new w _ _ rfl).up _).grown hg1 (by simp)
  have hb1 : Below w.heap.size w w1 := (up (up (Below.refl w.heap.size w) _) _).grown hg1 (by simp; omega) (fun j hj => by cases hj; omega)
  have hlt := hL1.lt
  have hA := hA1.up (.cells #[.int .i64 7, .int .i64 0, .slice none 0 0, .slice none 0 0, .string ⟨#[]⟩, .int .i64 0, .int .i64 0, .slice none 0 0, .slice none 0 0, .bool false] 88)
  have hL := hL1.up (.cells #[.int .i64 7, .int .i64 0, .slice none 0 0, .slice none 0 0, .string ⟨#[]⟩, .int .i64 0, .int .i64 0, .slice none 0 0, .slice none 0 0, .bool false] 88)
  have hR : Box (w1.alloc (.cells #[.int .i64 7, .int .i64 0, .slice none 0 0, .slice none 0 0, .string ⟨#[]⟩, .int .i64 0, .int .i64 0, .slice none 0 0, .slice none 0 0, .bool false] 88)) w1.heap.size #[.int .i64 7, .int .i64 0, .slice none 0 0, .slice none 0 0, .string ⟨#[]⟩, .int .i64 0, .int .i64 0, .slice none 0 0, .slice none 0 0, .bool false] 88 := Box.new _ _ _ rfl
  have hb := up hb1 (.cells #[.int .i64 7, .int .i64 0, .slice none 0 0, .slice none 0 0, .string ⟨#[]⟩, .int .i64 0, .int .i64 0, .slice none 0 0, .slice none 0 0, .bool false] 88)
  generalize w1.alloc (.cells #[.int .i64 7, .int .i64 0, .slice none 0 0, .slice none 0 0, .string ⟨#[]⟩, .int .i64 0, .int .i64 0, .slice none 0 0, .slice none 0 0, .bool false] 88) = W at *
  generalize hRn : w1.heap.size = R at *
  obtain ⟨L, hLn⟩ : ∃ L, w.heap.size + 1 = L := ⟨_, rfl⟩
  rw [hLn] at hL hlt ⊢
  clear hL1 hg1 hA1 hb1 hRn
  have hAL : w.heap.size < L := by omega
  try dsimp only at hN
  try dsimp only at hs1
  obtain ⟨x0, x1, x2, x3, x4, x5, x6, x7, x8, x9⟩ := RecBox.cells hR
  have hRW := hR.lt
  go_upto_region 10 with (first
    | (go_at_call 79; refine (known_all _ _).mono ?_; rintro e W ⟨rfl, rfl⟩)
    | (go_at_call 170
       refine (gang_seven L R L n1 s1 _ _ _ hs1 hN hP (by omega) (Nat.le_refl _) (by omega) hL hR).mono ?_
       rintro e W2 ⟨rfl, pv, hR2, ho1, hL2, hg2⟩
       have hA2 := hA.under hg2 hAL
       have hb2 : Below w.heap.size w W2 := hb.trans (hg2.mono (by omega))))
  have hbase : w.heap.size + 1 ≤ W.heap.size := by omega
  obtain ⟨a1, c1, rfl⟩ := tslice_of_own ho1
  have hR0 : RdR w.heap.size L R _ _ _ _ _ _ _ _ _ _ _ _ w W2 W2.drew := ⟨hR2, hL2, ⟨_, _, _, _, _, _, _, _, _, _, hA2⟩, hb2.drew, ⟨hAL, hlt⟩, grown_drew (World.grownBy.refl _ _)⟩
  clear hA hL hR hb hA2 hL2 hR2 hb2 x0 x1 x2 x3 x4 x5 x6 x7 x8 x9
  try dsimp only at ho1
  generalize hk1 : ps.length = k1 at *
  refine wp_region_relyZ (fun w1 => RdR w.heap.size L R (.int .i64 7) (.int .i64 gn) (.slice a1 k1 c1) (.slice none 0 0) (.string ⟨#[]⟩) (.int .i64 0) (.int .i64 0) (.slice none 0 0) (.slice none 0 0) (.bool false) (n3) (s3) w W2 w1) (fun w1 w2 => RdS w.heap.size (.int .i64 7) (.int .i64 gn) (.slice a1 k1 c1) (.slice none 0 0) (.string ⟨#[]⟩) (.int .i64 0) (.int .i64 0) (.slice none 0 0) (.slice none 0 0) (.bool false) w1 w2) (rdF w.heap.size L (.int .i64 7) (.int .i64 gn) (.slice a1 k1 c1) (.slice none 0 0) (.string ⟨#[]⟩) (.int .i64 0) (.int .i64 0) (.slice none 0 0) (.slice none 0 0) (.bool false) (n3)) (by kernel_rfl) (by kernel_rfl) hR0 ?keep ?step ?rest
  case keep =>
    intro i z w1 w2 hS hF
    unfold rdF at *
    split at hF <;> first | exact hF | exact hS.s0 hF
  case step =>
    intro i o ho b w1 hR hold hdep
    have o2 : sl b 2 = .pointer (some ⟨w.heap.size, 0, none⟩) := hold 2 (by kernel_rfl)
    have o4 : sl b 4 = .pointer (some ⟨L, 0, none⟩) := hold 4 (by kernel_rfl)
    have o5 : sl b 5 = .pointer (some ⟨R, 0, none⟩) := hold 5 (by kernel_rfl)
    obtain ⟨x0, x1, x2, x3, x4, x5, x6, x7, x8, x9⟩ := RecBox.cells hR.br
    obtain ⟨y0, y1⟩ := hR.bl.cells2
    have hS := RdS.refl w.heap.size (.int .i64 7) (.int .i64 gn) (.slice a1 k1 c1) (.slice none 0 0) (.string ⟨#[]⟩) (.int .i64 0) (.int .i64 0) (.slice none 0 0) (.slice none 0 0) (.bool false) w1
    rcases i with _ | _ | _ | _ | _ | _ | _ | _ | i
    all_goals try cases ho
    · exact okZ_val rfl rfl (want_none rfl b) (by simp [go_sem, o5, x0, x1, x2, x3, x4, x5, x6, x7, x8, x9]) hR hS rfl
    · exact okZ_val rfl rfl (want_none rfl b) (by simp [go_sem, o4]) hR hS rfl
    · have f39 : sl b 39 = .pointer (some ⟨L, 0, none⟩) := hdep 1 _ rfl (by kernel_rfl)
      exact okZ_val rfl rfl (want_none rfl b) (by simp [go_sem, f39]) hR hS rfl
    · have f40 : sl b 40 = .pointer (some ⟨L, 0, none⟩) := hdep 2 _ rfl (by kernel_rfl)
      exact okZ_val rfl rfl (want_none rfl b) (by simp [go_sem, f40]) hR hS rfl
    · have f41 : sl b 41 = .pointer (some ⟨L, 0, none⟩) := hdep 3 _ rfl (by kernel_rfl)
      exact okZ_val rfl rfl (want_none rfl b) (by simp [go_sem, f41, y0]) hR hS rfl
    · have f42 : sl b 42 = .int .i32 (n3) := hdep 4 _ rfl (by kernel_rfl)
      exact okZ_val rfl rfl (want_none rfl b) (by simp [go_sem, f42]) hR hS rfl
    · have f38 : sl b 38 = .agg #[.int .i64 7, .int .i64 gn, .slice a1 k1 c1, .slice none 0 0, .string ⟨#[]⟩, .int .i64 0, .int .i64 0, .slice none 0 0, .slice none 0 0, .bool false] := hdep 0 _ rfl (by kernel_rfl)
      obtain ⟨d0, d1, d2, d3, d4, d5, d6, d7, d8, d9, hr⟩ := hR.ba
      refine okZ_store rfl rfl (want_none rfl b) (run_store_rec (.tmp 2) (.tmp 38) rfl (by simpa [go_sem] using o2) (by simpa [go_sem] using f38) hr (by kernel_rfl)) ?_ ?_ ?_
      · exact ⟨Box.otherAll (by have := hR.ne; omega) _ _ hR.br, Box.otherAll (by have := hR.ne; omega) _ _ hR.bl, ⟨_, _, _, _, _, _, _, _, _, _, RecBox.setAll hr⟩, below_setAll (Nat.le_refl _) _ _ hR.bel, hR.ne, grown_setAll _ _ hR.gr⟩
      · exact ⟨fun h => RecBox.setAll h⟩
      · exact RecBox.setAll hr
    · have f43 : sl b 43 = .bool ((n3 : Int) == -2) := hdep 5 _ rfl (by kernel_rfl)
      exact okZ_val rfl rfl (want_none rfl b) (by simp [go_sem, f43]) hR hS rfl
  case rest =>
    intro b w1 hR hsz hdf hold hF
    have f2 : sl b 2 = .pointer (some ⟨w.heap.size, 0, none⟩) := hold 2 (by kernel_rfl)
    have f3 : sl b 3 = .bool ((n3 : Int) == -2) := hF 7 _ rfl
    have t0 : Box w1 w.heap.size #[.int .i64 7, .int .i64 gn, .slice a1 k1 c1, .slice none 0 0, .string ⟨#[]⟩, .int .i64 0, .int .i64 0, .slice none 0 0, .slice none 0 0, .bool false] 88 := hF 6 _ rfl
    have hB : b = _ := act_list b (show b.tmps.size = 44 from hsz) hdf
    rw [hB]
    simp only [List.range, List.range.loop, List.map_cons, List.map_nil, f2, f3]
    generalize sl b 0 = v0, sl b 1 = v1, sl b 4 = v4, sl b 5 = v5, sl b 6 = v6, sl b 7 = v7, sl b 8 = v8, sl b 9 = v9, sl b 10 = v10, sl b 11 = v11, sl b 12 = v12, sl b 13 = v13, sl b 14 = v14, sl b 15 = v15, sl b 16 = v16, sl b 17 = v17, sl b 18 = v18, sl b 19 = v19, sl b 20 = v20, sl b 21 = v21, sl b 22 = v22, sl b 23 = v23, sl b 24 = v24, sl b 25 = v25, sl b 26 = v26, sl b 27 = v27, sl b 28 = v28, sl b 29 = v29, sl b 30 = v30, sl b 31 = v31, sl b 32 = v32, sl b 33 = v33, sl b 34 = v34, sl b 35 = v35, sl b 36 = v36, sl b 37 = v37, sl b 38 = v38, sl b 39 = v39, sl b 40 = v40, sl b 41 = v41, sl b 42 = v42, sl b 43 = v43
    obtain ⟨x0, x1, x2, x3, x4, x5, x6, x7, x8, x9⟩ := RecBox.cells t0
    have hbel := hR.bel
    have hgr := hR.gr
    clear hB hold hsz hdf hF f2 f3 hR
    go_wp2
    exact bodyPost_ret (by simp [results, Tryz.results135, go_sem, x0, x1, x2, x3, x4, x5, x6, x7, x8, x9]) rfl ⟨.slice a1 k1 c1, rfl, by first | (rw [hk1]; exact own_grown (town_low ho1 hbase) hgr (fun g hg => by simp; omega)) | exact own_grown (town_low ho1 hbase) hgr (fun g hg => by simp; omega), hbel⟩

set_option maxRecDepth 100000 in
set_option maxHeartbeats 4000000 in
theorem read_three (s : ByteArray) (T : ByteArray × Int × ByteArray) (N : Nat × Int × ByteArray) (S : List Nat × Int × ByteArray) (V : List PlaceB × Int × ByteArray) (w : World) (hs : s.size ≤ 1000000) (hT : wordF (-1) (-1) s = T) (hk : kindR T.1 7 1 = 3) (hN : numF T.2.1 32 T.2.2 = N) (hP : peersF N.2.1 N.2.2 = S) (hQ : placesF (S.2.2.size + 2) S.2.1 S.2.2 = V) (hs1 : T.2.2.size ≤ 1000000) :
    Calls Tryz.prog 135 #[.string s] w fun e w' => ∃ pv qv, e = .returned (.tuple #[.agg #[.int .i64 3, .int .i64 N.1, pv, qv, .string ⟨#[]⟩, .int .i64 0, .int .i64 0, .slice none 0 0, .slice none 0 0, .bool false], .bool (V.2.1 == -2)]) ∧ w'.ownsRow (w.heap.size + 1) 3 1 pv S.1.length (S.1.map natV) ∧ w'.ownsRow (w.heap.size + 1) 192 5 qv V.1.length (V.1.flatMap placeCells) ∧ Below w.heap.size w w' := by
  obtain ⟨gn, n2, s2⟩ := N
  obtain ⟨ps, n3, s3⟩ := S
  obtain ⟨qs, n4, s4⟩ := V
  obtain ⟨v, n1, s1⟩ := T
  simp only at hk
  go_enter Tryz.func135, Tryz.ntmps135
  go_upto_region 4 with (first
    | (go_at_call 167
       refine (word_any (w.heap.size + 1) (-1) (-1) s _ _ hs hT (Box.new _ _ _ (by simp))).mono ?_
       rintro e w1 ⟨rfl, hL1, hg1⟩)
    | (go_at_call 166; refine (kindOf_any _ _).mono ?_; rw [hk]; rintro e w1 ⟨rfl, rfl⟩))
  have hA1 : Box w1 w.heap.size #[.int .i64 0, .int .i64 0, .slice none 0 0, .slice none 0 0, .string ⟨#[]⟩, .int .i64 0, .int .i64 0, .slice none 0 0, .slice none 0 0, .bool false] 88 := ((Box.new w _ _ rfl).up _).grown hg1 (by simp)
  have hb1 : Below w.heap.size w w1 := (up (up (Below.refl w.heap.size w) _) _).grown hg1 (by simp; omega) (fun j hj => by cases hj; omega)
  have hlt := hL1.lt
  have hA := hA1.up (.cells #[.int .i64 3, .int .i64 0, .slice none 0 0, .slice none 0 0, .string ⟨#[]⟩, .int .i64 0, .int .i64 0, .slice none 0 0, .slice none 0 0, .bool false] 88)
  have hL := hL1.up (.cells #[.int .i64 3, .int .i64 0, .slice none 0 0, .slice none 0 0, .string ⟨#[]⟩, .int .i64 0, .int .i64 0, .slice none 0 0, .slice none 0 0, .bool false] 88)
  have hR : Box (w1.alloc (.cells #[.int .i64 3, .int .i64 0, .slice none 0 0, .slice none 0 0, .string ⟨#[]⟩, .int .i64 0, .int .i64 0, .slice none 0 0, .slice none 0 0, .bool false] 88)) w1.heap.size #[.int .i64 3, .int .i64 0, .slice none 0 0, .slice none 0 0, .string ⟨#[]⟩, .int .i64 0, .int .i64 0, .slice none 0 0, .slice none 0 0, .bool false] 88 := Box.new _ _ _ rfl
  have hb := up hb1 (.cells #[.int .i64 3, .int .i64 0, .slice none 0 0, .slice none 0 0, .string ⟨#[]⟩, .int .i64 0, .int .i64 0, .slice none 0 0, .slice none 0 0, .bool false] 88)
  generalize w1.alloc (.cells #[.int .i64 3, .int .i64 0, .slice none 0 0, .slice none 0 0, .string ⟨#[]⟩, .int .i64 0, .int .i64 0, .slice none 0 0, .slice none 0 0, .bool false] 88) = W at *
  generalize hRn : w1.heap.size = R at *
  obtain ⟨L, hLn⟩ : ∃ L, w.heap.size + 1 = L := ⟨_, rfl⟩
  rw [hLn] at hL hlt ⊢
  clear hL1 hg1 hA1 hb1 hRn
  have hAL : w.heap.size < L := by omega
  try dsimp only at hN
  try dsimp only at hs1
  obtain ⟨x0, x1, x2, x3, x4, x5, x6, x7, x8, x9⟩ := RecBox.cells hR
  have hRW := hR.lt
  go_upto_region 10 with (first
    | (go_at_call 79; refine (known_all _ _).mono ?_; rintro e W ⟨rfl, rfl⟩)
    | (go_at_call 170
       refine (gang_three L R L n1 s1 _ _ _ _ hs1 hN hP hQ (by omega) (Nat.le_refl _) (by omega) hL hR).mono ?_
       rintro e W2 ⟨rfl, pv, qv, hR2, ho1, ho2, hL2, hg2⟩
       have hA2 := hA.under hg2 hAL
       have hb2 : Below w.heap.size w W2 := hb.trans (hg2.mono (by omega))))
  have hbase : w.heap.size + 1 ≤ W.heap.size := by omega
  obtain ⟨a1, c1, rfl⟩ := tslice_of_own ho1
  obtain ⟨a2, c2, rfl⟩ := tslice_of_own ho2
  have hR0 : RdR w.heap.size L R _ _ _ _ _ _ _ _ _ _ _ _ w W2 W2.drew := ⟨hR2, hL2, ⟨_, _, _, _, _, _, _, _, _, _, hA2⟩, hb2.drew, ⟨hAL, hlt⟩, grown_drew (World.grownBy.refl _ _)⟩
  clear hA hL hR hb hA2 hL2 hR2 hb2 x0 x1 x2 x3 x4 x5 x6 x7 x8 x9
  try dsimp only at ho1
  try dsimp only at ho2
  generalize hk1 : ps.length = k1 at *
  generalize hk2 : qs.length = k2 at *
  refine wp_region_relyZ (fun w1 => RdR w.heap.size L R (.int .i64 3) (.int .i64 gn) (.slice a1 k1 c1) (.slice a2 k2 c2) (.string ⟨#[]⟩) (.int .i64 0) (.int .i64 0) (.slice none 0 0) (.slice none 0 0) (.bool false) (n4) (s4) w W2 w1) (fun w1 w2 => RdS w.heap.size (.int .i64 3) (.int .i64 gn) (.slice a1 k1 c1) (.slice a2 k2 c2) (.string ⟨#[]⟩) (.int .i64 0) (.int .i64 0) (.slice none 0 0) (.slice none 0 0) (.bool false) w1 w2) (rdF w.heap.size L (.int .i64 3) (.int .i64 gn) (.slice a1 k1 c1) (.slice a2 k2 c2) (.string ⟨#[]⟩) (.int .i64 0) (.int .i64 0) (.slice none 0 0) (.slice none 0 0) (.bool false) (n4)) (by kernel_rfl) (by kernel_rfl) hR0 ?keep ?step ?rest
  case keep =>
    intro i z w1 w2 hS hF
    unfold rdF at *
    split at hF <;> first | exact hF | exact hS.s0 hF
  case step =>
    intro i o ho b w1 hR hold hdep
    have o2 : sl b 2 = .pointer (some ⟨w.heap.size, 0, none⟩) := hold 2 (by kernel_rfl)
    have o4 : sl b 4 = .pointer (some ⟨L, 0, none⟩) := hold 4 (by kernel_rfl)
    have o5 : sl b 5 = .pointer (some ⟨R, 0, none⟩) := hold 5 (by kernel_rfl)
    obtain ⟨x0, x1, x2, x3, x4, x5, x6, x7, x8, x9⟩ := RecBox.cells hR.br
    obtain ⟨y0, y1⟩ := hR.bl.cells2
    have hS := RdS.refl w.heap.size (.int .i64 3) (.int .i64 gn) (.slice a1 k1 c1) (.slice a2 k2 c2) (.string ⟨#[]⟩) (.int .i64 0) (.int .i64 0) (.slice none 0 0) (.slice none 0 0) (.bool false) w1
    rcases i with _ | _ | _ | _ | _ | _ | _ | _ | i
    all_goals try cases ho
    · exact okZ_val rfl rfl (want_none rfl b) (by simp [go_sem, o5, x0, x1, x2, x3, x4, x5, x6, x7, x8, x9]) hR hS rfl
    · exact okZ_val rfl rfl (want_none rfl b) (by simp [go_sem, o4]) hR hS rfl
    · have f39 : sl b 39 = .pointer (some ⟨L, 0, none⟩) := hdep 1 _ rfl (by kernel_rfl)
      exact okZ_val rfl rfl (want_none rfl b) (by simp [go_sem, f39]) hR hS rfl
    · have f40 : sl b 40 = .pointer (some ⟨L, 0, none⟩) := hdep 2 _ rfl (by kernel_rfl)
      exact okZ_val rfl rfl (want_none rfl b) (by simp [go_sem, f40]) hR hS rfl
    · have f41 : sl b 41 = .pointer (some ⟨L, 0, none⟩) := hdep 3 _ rfl (by kernel_rfl)
      exact okZ_val rfl rfl (want_none rfl b) (by simp [go_sem, f41, y0]) hR hS rfl
    · have f42 : sl b 42 = .int .i32 (n4) := hdep 4 _ rfl (by kernel_rfl)
      exact okZ_val rfl rfl (want_none rfl b) (by simp [go_sem, f42]) hR hS rfl
    · have f38 : sl b 38 = .agg #[.int .i64 3, .int .i64 gn, .slice a1 k1 c1, .slice a2 k2 c2, .string ⟨#[]⟩, .int .i64 0, .int .i64 0, .slice none 0 0, .slice none 0 0, .bool false] := hdep 0 _ rfl (by kernel_rfl)
      obtain ⟨d0, d1, d2, d3, d4, d5, d6, d7, d8, d9, hr⟩ := hR.ba
      refine okZ_store rfl rfl (want_none rfl b) (run_store_rec (.tmp 2) (.tmp 38) rfl (by simpa [go_sem] using o2) (by simpa [go_sem] using f38) hr (by kernel_rfl)) ?_ ?_ ?_
      · exact ⟨Box.otherAll (by have := hR.ne; omega) _ _ hR.br, Box.otherAll (by have := hR.ne; omega) _ _ hR.bl, ⟨_, _, _, _, _, _, _, _, _, _, RecBox.setAll hr⟩, below_setAll (Nat.le_refl _) _ _ hR.bel, hR.ne, grown_setAll _ _ hR.gr⟩
      · exact ⟨fun h => RecBox.setAll h⟩
      · exact RecBox.setAll hr
    · have f43 : sl b 43 = .bool ((n4 : Int) == -2) := hdep 5 _ rfl (by kernel_rfl)
      exact okZ_val rfl rfl (want_none rfl b) (by simp [go_sem, f43]) hR hS rfl
  case rest =>
    intro b w1 hR hsz hdf hold hF
    have f2 : sl b 2 = .pointer (some ⟨w.heap.size, 0, none⟩) := hold 2 (by kernel_rfl)
    have f3 : sl b 3 = .bool ((n4 : Int) == -2) := hF 7 _ rfl
    have t0 : Box w1 w.heap.size #[.int .i64 3, .int .i64 gn, .slice a1 k1 c1, .slice a2 k2 c2, .string ⟨#[]⟩, .int .i64 0, .int .i64 0, .slice none 0 0, .slice none 0 0, .bool false] 88 := hF 6 _ rfl
    have hB : b = _ := act_list b (show b.tmps.size = 44 from hsz) hdf
    rw [hB]
    simp only [List.range, List.range.loop, List.map_cons, List.map_nil, f2, f3]
    generalize sl b 0 = v0, sl b 1 = v1, sl b 4 = v4, sl b 5 = v5, sl b 6 = v6, sl b 7 = v7, sl b 8 = v8, sl b 9 = v9, sl b 10 = v10, sl b 11 = v11, sl b 12 = v12, sl b 13 = v13, sl b 14 = v14, sl b 15 = v15, sl b 16 = v16, sl b 17 = v17, sl b 18 = v18, sl b 19 = v19, sl b 20 = v20, sl b 21 = v21, sl b 22 = v22, sl b 23 = v23, sl b 24 = v24, sl b 25 = v25, sl b 26 = v26, sl b 27 = v27, sl b 28 = v28, sl b 29 = v29, sl b 30 = v30, sl b 31 = v31, sl b 32 = v32, sl b 33 = v33, sl b 34 = v34, sl b 35 = v35, sl b 36 = v36, sl b 37 = v37, sl b 38 = v38, sl b 39 = v39, sl b 40 = v40, sl b 41 = v41, sl b 42 = v42, sl b 43 = v43
    obtain ⟨x0, x1, x2, x3, x4, x5, x6, x7, x8, x9⟩ := RecBox.cells t0
    have hbel := hR.bel
    have hgr := hR.gr
    clear hB hold hsz hdf hF f2 f3 hR
    go_wp2
    exact bodyPost_ret (by simp [results, Tryz.results135, go_sem, x0, x1, x2, x3, x4, x5, x6, x7, x8, x9]) rfl ⟨.slice a1 k1 c1, .slice a2 k2 c2, rfl, by first | (rw [hk1]; exact own_grown (town_low ho1 hbase) hgr (fun g hg => by simp; omega)) | exact own_grown (town_low ho1 hbase) hgr (fun g hg => by simp; omega), by first | (rw [hk2]; exact own_grown (town_low ho2 hbase) hgr (fun g hg => by simp; omega)) | exact own_grown (town_low ho2 hbase) hgr (fun g hg => by simp; omega), hbel⟩

end Go.Proofs.YtlehlbgaboifoabGreatDoor

/- The contracts of noNode and bare of package line, of records as they are read. -/
namespace Go.Proofs.YtlehlbgaboifoabGreatDoor
open Go.RowKit
set_option linter.unusedSimpArgs false
set_option linter.unusedVariables false

theorem eqVec0 (w : World) : (Op.equalIn 10000 57 (.agg #[.int .i64 0, .int .i64 0]) (.agg #[.int .i64 0, .int .i64 0])).run Tryz.prog w = .ok true w := by kernel_rfl

set_option maxHeartbeats 1000000 in
theorem noNode_zero (w : World) : Calls Tryz.prog 118 #[.agg #[.string ⟨#[]⟩, .int .i64 0, .int .i64 0, .slice none 0 0, .slice none 0 0, .bool false]] w fun e w' => e = .returned (.bool true) ∧ Below w.heap.size w w' := by
  have he := eqVec0
  go_enter Tryz.func118, Tryz.ntmps118
  go_wp2
  go_ret
  exact ⟨rfl, up (Below.refl _ _) _⟩

set_option maxRecDepth 100000 in
set_option maxHeartbeats 2000000 in
theorem bare_node (nm : ByteArray) (cpu mem : Int) (a1 a2 : Option Addr) (n1 c1 n2 c2 : Nat) (cl : Bool) (w : World) : Calls Tryz.prog 80 #[.agg #[.int .i64 1, .int .i64 0, .slice none 0 0, .slice none 0 0, .string nm, .int .i64 cpu, .int .i64 mem, .slice a1 n1 c1, .slice a2 n2 c2, .bool cl]] w fun e w' => e = .returned (.bool true) ∧ Below w.heap.size w w' := by
  go_enter Tryz.func80, Tryz.ntmps80
  go_wp2_with (first
    | (go_at_call 117; refine (peered_is 1 false (by decide) _).mono ?_; rintro e w1 ⟨rfl, rfl⟩)
    | (go_at_call 118; refine (noNode_zero _).mono ?_; rintro e w2 ⟨rfl, hb2⟩))
  go_ret
  refine ⟨rfl, fin hb2 ?_⟩
  repeat (first | exact up (Below.refl _ _) _ | refine Below.setCell ?_ (by simp) _)

set_option maxRecDepth 100000 in
set_option maxHeartbeats 2000000 in
theorem bare_gone (nm : ByteArray) (w : World) : Calls Tryz.prog 80 #[.agg #[.int .i64 2, .int .i64 0, .slice none 0 0, .slice none 0 0, .string nm, .int .i64 0, .int .i64 0, .slice none 0 0, .slice none 0 0, .bool false]] w fun e w' => e = .returned (.bool true) ∧ Below w.heap.size w w' := by
  go_enter Tryz.func80, Tryz.ntmps80
  go_wp2_with (first
    | (go_at_call 117; refine (peered_is 2 false (by decide) _).mono ?_; rintro e w1 ⟨rfl, rfl⟩)
    | (go_at_call 118; refine (noNode_zero _).mono ?_; rintro e w2 ⟨rfl, hb2⟩))
  go_ret
  refine ⟨rfl, fin hb2 ?_⟩
  repeat (first | exact up (Below.refl _ _) _ | refine Below.setCell ?_ (by simp) _)

set_option maxRecDepth 100000 in
set_option maxHeartbeats 2000000 in
theorem bare_four (g : Int) (w : World) : Calls Tryz.prog 80 #[.agg #[.int .i64 4, .int .i64 g, .slice none 0 0, .slice none 0 0, .string ⟨#[]⟩, .int .i64 0, .int .i64 0, .slice none 0 0, .slice none 0 0, .bool false]] w fun e w' => e = .returned (.bool true) ∧ Below w.heap.size w w' := by
  go_enter Tryz.func80, Tryz.ntmps80
  go_wp2_with (first
    | (go_at_call 117; refine (peered_is 4 false (by decide) _).mono ?_; rintro e w1 ⟨rfl, rfl⟩)
    | (go_at_call 118; refine (noNode_zero _).mono ?_; rintro e w2 ⟨rfl, hb2⟩))
  go_ret
  refine ⟨rfl, fin hb2 ?_⟩
  repeat (first | exact up (Below.refl _ _) _ | refine Below.setCell ?_ (by simp) _)

set_option maxRecDepth 100000 in
set_option maxHeartbeats 2000000 in
theorem bare_five (g : Int) (w : World) : Calls Tryz.prog 80 #[.agg #[.int .i64 5, .int .i64 g, .slice none 0 0, .slice none 0 0, .string ⟨#[]⟩, .int .i64 0, .int .i64 0, .slice none 0 0, .slice none 0 0, .bool false]] w fun e w' => e = .returned (.bool true) ∧ Below w.heap.size w w' := by
  go_enter Tryz.func80, Tryz.ntmps80
  go_wp2_with (first
    | (go_at_call 117; refine (peered_is 5 false (by decide) _).mono ?_; rintro e w1 ⟨rfl, rfl⟩)
    | (go_at_call 118; refine (noNode_zero _).mono ?_; rintro e w2 ⟨rfl, hb2⟩))
  go_ret
  refine ⟨rfl, fin hb2 ?_⟩
  repeat (first | exact up (Below.refl _ _) _ | refine Below.setCell ?_ (by simp) _)

set_option maxRecDepth 100000 in
set_option maxHeartbeats 2000000 in
theorem bare_six (g : Int) (w : World) : Calls Tryz.prog 80 #[.agg #[.int .i64 6, .int .i64 g, .slice none 0 0, .slice none 0 0, .string ⟨#[]⟩, .int .i64 0, .int .i64 0, .slice none 0 0, .slice none 0 0, .bool false]] w fun e w' => e = .returned (.bool true) ∧ Below w.heap.size w w' := by
  go_enter Tryz.func80, Tryz.ntmps80
  go_wp2_with (first
    | (go_at_call 117; refine (peered_is 6 false (by decide) _).mono ?_; rintro e w1 ⟨rfl, rfl⟩)
    | (go_at_call 118; refine (noNode_zero _).mono ?_; rintro e w2 ⟨rfl, hb2⟩))
  go_ret
  refine ⟨rfl, fin hb2 ?_⟩
  repeat (first | exact up (Below.refl _ _) _ | refine Below.setCell ?_ (by simp) _)

set_option maxRecDepth 100000 in
set_option maxHeartbeats 2000000 in
theorem bare_seven (g : Int) (a1 : Option Addr) (n1 c1 : Nat) (w : World) : Calls Tryz.prog 80 #[.agg #[.int .i64 7, .int .i64 g, .slice a1 n1 c1, .slice none 0 0, .string ⟨#[]⟩, .int .i64 0, .int .i64 0, .slice none 0 0, .slice none 0 0, .bool false]] w fun e w' => e = .returned (.bool true) ∧ Below w.heap.size w w' := by
  go_enter Tryz.func80, Tryz.ntmps80
  go_wp2_with (first
    | (go_at_call 117; refine (peered_is 7 true (by decide) _).mono ?_; rintro e w1 ⟨rfl, rfl⟩)
    | (go_at_call 118; refine (noNode_zero _).mono ?_; rintro e w2 ⟨rfl, hb2⟩))
  go_ret
  refine ⟨rfl, fin hb2 ?_⟩
  repeat (first | exact up (Below.refl _ _) _ | refine Below.setCell ?_ (by simp) _)

set_option maxRecDepth 100000 in
set_option maxHeartbeats 2000000 in
theorem bare_three (g : Int) (a1 a2 : Option Addr) (n1 c1 n2 c2 : Nat) (w : World) : Calls Tryz.prog 80 #[.agg #[.int .i64 3, .int .i64 g, .slice a1 n1 c1, .slice a2 n2 c2, .string ⟨#[]⟩, .int .i64 0, .int .i64 0, .slice none 0 0, .slice none 0 0, .bool false]] w fun e w' => e = .returned (.bool true) ∧ Below w.heap.size w w' := by
  go_enter Tryz.func80, Tryz.ntmps80
  go_wp2_with (first
    | (go_at_call 117; refine (peered_is 3 true (by decide) _).mono ?_; rintro e w1 ⟨rfl, rfl⟩)
    | (go_at_call 118; refine (noNode_zero _).mono ?_; rintro e w2 ⟨rfl, hb2⟩))
  go_ret
  refine ⟨rfl, fin hb2 ?_⟩
  repeat (first | exact up (Below.refl _ _) _ | refine Below.setCell ?_ (by simp) _)

end Go.Proofs.YtlehlbgaboifoabGreatDoor

/- The contracts of checkGang and Check of package line, of records of one number alone. -/
namespace Go.Proofs.YtlehlbgaboifoabGreatDoor
open Go.RowKit
set_option linter.unusedSimpArgs false
set_option linter.unusedVariables false

/-- What is wrong with a gang's number. -/
def gangE (g : Int) : Int := if g < 1 ∨ 999999 < g then 2 else 0

set_option maxRecDepth 100000 in
set_option maxHeartbeats 2000000 in
theorem checkGang_four (g : Int) (w : World) : Calls Tryz.prog 83 #[.agg #[.int .i64 4, .int .i64 g, .slice none 0 0, .slice none 0 0, .string ⟨#[]⟩, .int .i64 0, .int .i64 0, .slice none 0 0, .slice none 0 0, .bool false]] w fun e w' => e = .returned (.int .i64 (gangE g)) ∧ Below w.heap.size w w' := by
  unfold gangE
  by_cases h1 : g < 1
  · rw [if_pos (.inl h1)]
    have d1 : decide (g < 1) = true := by simp [h1]
    go_enter Tryz.func83, Tryz.ntmps83
    go_wp2
    go_ret
    exact ⟨rfl, up (Below.refl _ _) _⟩
  · have d1 : decide (g < 1) = false := by simp [h1]
    by_cases h2 : 999999 < g
    · rw [if_pos (.inr h2)]
      have d2 : decide (999999 < g) = true := by simp [h2]
      go_enter Tryz.func83, Tryz.ntmps83
      go_wp2
      go_ret
      exact ⟨rfl, up (Below.refl _ _) _⟩
    · rw [if_neg (by omega)]
      have d2 : decide (999999 < g) = false := by simp [h2]
      go_enter Tryz.func83, Tryz.ntmps83
      go_wp2_with (first
        | (go_at_call 117; refine (peered_is 4 false (by decide) _).mono ?_; rintro e w1 ⟨rfl, rfl⟩))
      go_ret
      exact ⟨rfl, up (Below.refl _ _) _⟩
set_option maxRecDepth 100000 in
set_option maxHeartbeats 2000000 in
theorem check_four (g : Int) (w : World) : Calls Tryz.prog 34 #[.agg #[.int .i64 4, .int .i64 g, .slice none 0 0, .slice none 0 0, .string ⟨#[]⟩, .int .i64 0, .int .i64 0, .slice none 0 0, .slice none 0 0, .bool false]] w fun e w' => e = .returned (.int .i64 (gangE g)) ∧ Below w.heap.size w w' := by
  go_enter Tryz.func34, Tryz.ntmps34
  go_wp2_with (first
    | (go_at_call 79; refine (known_all _ _).mono ?_; rintro e w1 ⟨rfl, rfl⟩)
    | (go_at_call 80; refine (bare_four _ _).mono ?_; rintro e w2 ⟨rfl, hb2⟩
       have q := (Box.new w #[.int .i64 4, .int .i64 g, .slice none 0 0, .slice none 0 0, .string ⟨#[]⟩, .int .i64 0, .int .i64 0, .slice none 0 0, .slice none 0 0, .bool false] 88 rfl).later hb2
       have hW := fin hb2 (up (Below.refl w.heap.size w) _)
       obtain ⟨x0, x1, x2, x3, x4, x5, x6, x7, x8, x9⟩ := RecBox.cells q)
    | (go_at_call 83; refine (checkGang_four _ _).mono ?_; rintro e w3 ⟨rfl, hb3⟩))
  go_ret
  exact ⟨rfl, fin hb3 hW⟩

set_option maxRecDepth 100000 in
set_option maxHeartbeats 2000000 in
theorem checkGang_five (g : Int) (w : World) : Calls Tryz.prog 83 #[.agg #[.int .i64 5, .int .i64 g, .slice none 0 0, .slice none 0 0, .string ⟨#[]⟩, .int .i64 0, .int .i64 0, .slice none 0 0, .slice none 0 0, .bool false]] w fun e w' => e = .returned (.int .i64 (gangE g)) ∧ Below w.heap.size w w' := by
  unfold gangE
  by_cases h1 : g < 1
  · rw [if_pos (.inl h1)]
    have d1 : decide (g < 1) = true := by simp [h1]
    go_enter Tryz.func83, Tryz.ntmps83
    go_wp2
    go_ret
    exact ⟨rfl, up (Below.refl _ _) _⟩
  · have d1 : decide (g < 1) = false := by simp [h1]
    by_cases h2 : 999999 < g
    · rw [if_pos (.inr h2)]
      have d2 : decide (999999 < g) = true := by simp [h2]
      go_enter Tryz.func83, Tryz.ntmps83
      go_wp2
      go_ret
      exact ⟨rfl, up (Below.refl _ _) _⟩
    · rw [if_neg (by omega)]
      have d2 : decide (999999 < g) = false := by simp [h2]
      go_enter Tryz.func83, Tryz.ntmps83
      go_wp2_with (first
        | (go_at_call 117; refine (peered_is 5 false (by decide) _).mono ?_; rintro e w1 ⟨rfl, rfl⟩))
      go_ret
      exact ⟨rfl, up (Below.refl _ _) _⟩
set_option maxRecDepth 100000 in
set_option maxHeartbeats 2000000 in
theorem check_five (g : Int) (w : World) : Calls Tryz.prog 34 #[.agg #[.int .i64 5, .int .i64 g, .slice none 0 0, .slice none 0 0, .string ⟨#[]⟩, .int .i64 0, .int .i64 0, .slice none 0 0, .slice none 0 0, .bool false]] w fun e w' => e = .returned (.int .i64 (gangE g)) ∧ Below w.heap.size w w' := by
  go_enter Tryz.func34, Tryz.ntmps34
  go_wp2_with (first
    | (go_at_call 79; refine (known_all _ _).mono ?_; rintro e w1 ⟨rfl, rfl⟩)
    | (go_at_call 80; refine (bare_five _ _).mono ?_; rintro e w2 ⟨rfl, hb2⟩
       have q := (Box.new w #[.int .i64 5, .int .i64 g, .slice none 0 0, .slice none 0 0, .string ⟨#[]⟩, .int .i64 0, .int .i64 0, .slice none 0 0, .slice none 0 0, .bool false] 88 rfl).later hb2
       have hW := fin hb2 (up (Below.refl w.heap.size w) _)
       obtain ⟨x0, x1, x2, x3, x4, x5, x6, x7, x8, x9⟩ := RecBox.cells q)
    | (go_at_call 83; refine (checkGang_five _ _).mono ?_; rintro e w3 ⟨rfl, hb3⟩))
  go_ret
  exact ⟨rfl, fin hb3 hW⟩

set_option maxRecDepth 100000 in
set_option maxHeartbeats 2000000 in
theorem checkGang_six (g : Int) (w : World) : Calls Tryz.prog 83 #[.agg #[.int .i64 6, .int .i64 g, .slice none 0 0, .slice none 0 0, .string ⟨#[]⟩, .int .i64 0, .int .i64 0, .slice none 0 0, .slice none 0 0, .bool false]] w fun e w' => e = .returned (.int .i64 (gangE g)) ∧ Below w.heap.size w w' := by
  unfold gangE
  by_cases h1 : g < 1
  · rw [if_pos (.inl h1)]
    have d1 : decide (g < 1) = true := by simp [h1]
    go_enter Tryz.func83, Tryz.ntmps83
    go_wp2
    go_ret
    exact ⟨rfl, up (Below.refl _ _) _⟩
  · have d1 : decide (g < 1) = false := by simp [h1]
    by_cases h2 : 999999 < g
    · rw [if_pos (.inr h2)]
      have d2 : decide (999999 < g) = true := by simp [h2]
      go_enter Tryz.func83, Tryz.ntmps83
      go_wp2
      go_ret
      exact ⟨rfl, up (Below.refl _ _) _⟩
    · rw [if_neg (by omega)]
      have d2 : decide (999999 < g) = false := by simp [h2]
      go_enter Tryz.func83, Tryz.ntmps83
      go_wp2_with (first
        | (go_at_call 117; refine (peered_is 6 false (by decide) _).mono ?_; rintro e w1 ⟨rfl, rfl⟩))
      go_ret
      exact ⟨rfl, up (Below.refl _ _) _⟩
set_option maxRecDepth 100000 in
set_option maxHeartbeats 2000000 in
theorem check_six (g : Int) (w : World) : Calls Tryz.prog 34 #[.agg #[.int .i64 6, .int .i64 g, .slice none 0 0, .slice none 0 0, .string ⟨#[]⟩, .int .i64 0, .int .i64 0, .slice none 0 0, .slice none 0 0, .bool false]] w fun e w' => e = .returned (.int .i64 (gangE g)) ∧ Below w.heap.size w w' := by
  go_enter Tryz.func34, Tryz.ntmps34
  go_wp2_with (first
    | (go_at_call 79; refine (known_all _ _).mono ?_; rintro e w1 ⟨rfl, rfl⟩)
    | (go_at_call 80; refine (bare_six _ _).mono ?_; rintro e w2 ⟨rfl, hb2⟩
       have q := (Box.new w #[.int .i64 6, .int .i64 g, .slice none 0 0, .slice none 0 0, .string ⟨#[]⟩, .int .i64 0, .int .i64 0, .slice none 0 0, .slice none 0 0, .bool false] 88 rfl).later hb2
       have hW := fin hb2 (up (Below.refl w.heap.size w) _)
       obtain ⟨x0, x1, x2, x3, x4, x5, x6, x7, x8, x9⟩ := RecBox.cells q)
    | (go_at_call 83; refine (checkGang_six _ _).mono ?_; rintro e w3 ⟨rfl, hb3⟩))
  go_ret
  exact ⟨rfl, fin hb3 hW⟩

end Go.Proofs.YtlehlbgaboifoabGreatDoor
