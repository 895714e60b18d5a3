/- Text of a record of any kind that may be. -/
import Derived.Test.YtmldpihjndafaabDoorUS
namespace Go.Proofs.YtmldpihjndafaabDoor
open Go.RowKit
set_option linter.unusedSimpArgs false
set_option linter.unusedVariables false

/-- The bytes of a text. -/
abbrev vb (k : Nat) : List UInt8 := (verbB k).data.toList

set_option maxRecDepth 100000 in
set_option maxHeartbeats 4000000 in
theorem write_gone (nm : ByteArray) (w : World) (zn : nm.size ≤ 10000) (hT : TabB w.heap.size w) : Calls Tryd.prog 30 #[.agg #[.int .i64 2, .int .i64 0, .slice none 0 0, .slice none 0 0, .string nm, .int .i64 0, .int .i64 0, .slice none 0 0, .slice none 0 0, .bool false]] w fun e w' => e = .returned (.string ⟨(vb 2 ++ wordT 32 nm).toArray⟩) ∧ Below w.heap.size w w' := by
  go_enter Tryd.func30, Tryd.ntmps30
  go_upto_region 4 with (first
    | (go_at_call 25; refine (known_all _ _).mono ?_; rintro e w1 ⟨rfl, rfl⟩))
  have hs : (w.alloc (Obj.cells #[.int .i64 2, .int .i64 0, .slice none 0 0, .slice none 0 0, .string nm, .int .i64 0, .int .i64 0, .slice none 0 0, .slice none 0 0, .bool false] 35 (0, 0))).heap.size = w.heap.size + 1 := by simp
  have bR : Box ((w.alloc (Obj.cells #[.int .i64 2, .int .i64 0, .slice none 0 0, .slice none 0 0, .string nm, .int .i64 0, .int .i64 0, .slice none 0 0, .slice none 0 0, .bool false] 35 (0, 0))).alloc (Obj.cells #[.pointer none, .slice none 0 0] 82 (0, 0))) w.heap.size #[.int .i64 2, .int .i64 0, .slice none 0 0, .slice none 0 0, .string nm, .int .i64 0, .int .i64 0, .slice none 0 0, .slice none 0 0, .bool false] 35 := (Box.new w _ _ rfl).up _
  have bW : Box ((w.alloc (Obj.cells #[.int .i64 2, .int .i64 0, .slice none 0 0, .slice none 0 0, .string nm, .int .i64 0, .int .i64 0, .slice none 0 0, .slice none 0 0, .bool false] 35 (0, 0))).alloc (Obj.cells #[.pointer none, .slice none 0 0] 82 (0, 0))) (w.heap.size + 1) #[.pointer none, .slice none 0 0] 82 := Box.new _ _ _ hs
  have hB0 : Below w.heap.size w ((w.alloc (Obj.cells #[.int .i64 2, .int .i64 0, .slice none 0 0, .slice none 0 0, .string nm, .int .i64 0, .int .i64 0, .slice none 0 0, .slice none 0 0, .bool false] 35 (0, 0))).alloc (Obj.cells #[.pointer none, .slice none 0 0] 82 (0, 0))) := ((Below.refl _ _).alloc (Nat.le_refl _) _).alloc (by omega) _
  generalize (w.alloc (Obj.cells #[.int .i64 2, .int .i64 0, .slice none 0 0, .slice none 0 0, .string nm, .int .i64 0, .int .i64 0, .slice none 0 0, .slice none 0 0, .bool false] 35 (0, 0))).alloc (Obj.cells #[.pointer none, .slice none 0 0] 82 (0, 0)) = W at *
  have hI : InW (w.heap.size + 1) (w.heap.size + 1) [] W := .inl ⟨Nat.le_refl _, .slice none 0 0, bW, (by simp [World.ownsRow]), by simp [Value.ownBlock]⟩
  have hI' : InW (w.heap.size + 1) (w.heap.size + 1) [] W.drew := hI
  have hl4 : ([] : List Value).length + (verbB 2).size ≤ 1000000000 := by decide +kernel
  have hW1 := bW.lt
  have hW2 : w.heap.size + 1 ≤ W.drew.heap.size := Nat.le_of_lt hW1
  have c0 : W.drew.cell? ⟨w.heap.size, 0, none⟩ = some (.int .i64 2) := bR.cell rfl
  have c0' : W.cell? ⟨w.heap.size, 0, none⟩ = some (.int .i64 2) := bR.cell rfl
  have hT1 : TabB w.heap.size W.drew := hT.on hB0.drew
  clear hT
  go_cut [] (fun wx => AtW (w.heap.size + 1) (w.heap.size + 1) (Lib.byteCells (vb 2)) wx ∧ Below (w.heap.size + 1) W.drew wx)
  case first =>
    go_region_with (first
      | (go_at_call 44; refine (verbOf_any 2 (by decide) (by decide) _).mono ?_; rintro e w1 ⟨rfl, rfl⟩)
      | (go_at_call 43; refine (writeString_any (w.heap.size + 1) (w.heap.size + 1) [] _ _ hI' hl4 hW2).mono ?_; rintro e w2 ⟨rfl, h2, hb2, hf2⟩))
    all_goals
      go_wp2
      go_meet
      case rel => exact ⟨h2, hb2⟩
  case rest =>
    obtain ⟨hA, hbA⟩ := hcut
    have f0 := cell_below hbA c0 (Nat.lt_succ_self _)
    have f4 := cell_below hbA (a := ⟨w.heap.size, 4, none⟩) (v := .string nm) (bR.cell rfl) (Nat.lt_succ_self _)
    have hsA : w.heap.size + 1 ≤ wc.heap.size := Nat.le_trans hW2 hbA.size
    have hTA : TabB (w.heap.size + 1) wc := (hT1.up (Nat.le_succ _)).on hbA
    have hBt : Below w.heap.size w wc := (hB0.drew).trans (hbA.mono (Nat.le_succ _))
    have lv : (vb 2).length ≤ 10 := by decide
    have kF := word_l (w.heap.size + 1) (w.heap.size + 1) (vb 2) 32 32 nm wc (by decide) (by decide) hA (by omega) hsA
    clear hTA hT1
    go_wp2_with (first
      | (go_at_call 46; refine kF.mono ?_; rintro e w3 ⟨rfl, hF, hbF, _⟩)
      | (go_at_call 50; refine (string_at (w.heap.size + 1) (w.heap.size + 1) _ _ hF (by simp [vb, wordT, numT, nodeT])).mono ?_; rintro e w6 ⟨rfl, hb6⟩))
    refine bodyPost_ret (by simp [results, Tryd.results30, go_sem]) rfl ⟨rfl, (hB0.drew).trans (((hbA.trans hbF).trans hb6).mono (Nat.le_succ _))⟩

theorem text_gone (nm : ByteArray) (w : World) (zn : nm.size ≤ 10000) (hT : TabB w.heap.size w) : Calls Tryd.prog 16 #[.agg #[.int .i64 2, .int .i64 0, .slice none 0 0, .slice none 0 0, .string nm, .int .i64 0, .int .i64 0, .slice none 0 0, .slice none 0 0, .bool false]] w fun e w' => e = .returned (.string ⟨(vb 2 ++ wordT 32 nm).toArray⟩) ∧ Below w.heap.size w w' := by
  have hb0 : Below w.heap.size w (w.alloc (Obj.cells #[.int .i64 2, .int .i64 0, .slice none 0 0, .slice none 0 0, .string nm, .int .i64 0, .int .i64 0, .slice none 0 0, .slice none 0 0, .bool false] 35 (0, 0))) := up (Below.refl _ _) _
  have q := Box.new w #[.int .i64 2, .int .i64 0, .slice none 0 0, .slice none 0 0, .string nm, .int .i64 0, .int .i64 0, .slice none 0 0, .slice none 0 0, .bool false] 35 rfl
  obtain ⟨x0, x1, x2, x3, x4, x5, x6, x7, x8, x9⟩ := RecBox.cells q
  have kw := write_gone nm (w.alloc (Obj.cells #[.int .i64 2, .int .i64 0, .slice none 0 0, .slice none 0 0, .string nm, .int .i64 0, .int .i64 0, .slice none 0 0, .slice none 0 0, .bool false] 35 (0, 0))) zn ((hT.on hb0).up hb0.size)
  clear hT
  go_enter Tryd.func16, Tryd.ntmps16
  go_wp2_with (go_at_call 30; refine kw.mono ?_; rintro e w1 ⟨rfl, hb1⟩)
  go_ret
  exact ⟨rfl, fin hb1 hb0⟩

set_option maxRecDepth 100000 in
set_option maxHeartbeats 4000000 in
theorem write_node (nm : ByteArray) (cpu mem : Nat) (a1 a2 : Option Addr) (n1 c1 n2 c2 : Nat) (xs ys : List ByteArray) (cl : Bool) (w : World) (h1 : Strs w a1 xs) (h2 : Strs w a2 ys) (e1 : xs.length = n1) (e2 : ys.length = n2) (l1 : Low w.heap.size a1) (l2 : Low w.heap.size a2) (z1 : ∀ s ∈ xs, s.size ≤ 10000) (z2 : ∀ s ∈ ys, s.size ≤ 10000) (zn : nm.size ≤ 10000) (zc : cpu ≤ 9223372036854775807) (zm : mem ≤ 9223372036854775807) (hT : TabB w.heap.size w) : Calls Tryd.prog 30 #[.agg #[.int .i64 1, .int .i64 0, .slice none 0 0, .slice none 0 0, .string nm, .int .i64 cpu, .int .i64 mem, .slice a1 n1 c1, .slice a2 n2 c2, .bool cl]] w fun e w' => e = .returned (.string ⟨(vb 1 ++ nodeT ⟨nm, cpu, mem, xs, ys, cl⟩).toArray⟩) ∧ Below w.heap.size w w' := by
  have e1' : Hid (xs.length = n1) := e1
  have e2' : Hid (ys.length = n2) := e2
  clear e1 e2
  go_enter Tryd.func30, Tryd.ntmps30
  go_upto_region 4 with (first
    | (go_at_call 25; refine (known_all _ _).mono ?_; rintro e w1 ⟨rfl, rfl⟩))
  have hs : (w.alloc (Obj.cells #[.int .i64 1, .int .i64 0, .slice none 0 0, .slice none 0 0, .string nm, .int .i64 cpu, .int .i64 mem, .slice a1 n1 c1, .slice a2 n2 c2, .bool cl] 35 (0, 0))).heap.size = w.heap.size + 1 := by simp
  have bR : Box ((w.alloc (Obj.cells #[.int .i64 1, .int .i64 0, .slice none 0 0, .slice none 0 0, .string nm, .int .i64 cpu, .int .i64 mem, .slice a1 n1 c1, .slice a2 n2 c2, .bool cl] 35 (0, 0))).alloc (Obj.cells #[.pointer none, .slice none 0 0] 82 (0, 0))) w.heap.size #[.int .i64 1, .int .i64 0, .slice none 0 0, .slice none 0 0, .string nm, .int .i64 cpu, .int .i64 mem, .slice a1 n1 c1, .slice a2 n2 c2, .bool cl] 35 := (Box.new w _ _ rfl).up _
  have bW : Box ((w.alloc (Obj.cells #[.int .i64 1, .int .i64 0, .slice none 0 0, .slice none 0 0, .string nm, .int .i64 cpu, .int .i64 mem, .slice a1 n1 c1, .slice a2 n2 c2, .bool cl] 35 (0, 0))).alloc (Obj.cells #[.pointer none, .slice none 0 0] 82 (0, 0))) (w.heap.size + 1) #[.pointer none, .slice none 0 0] 82 := Box.new _ _ _ hs
  have hB0 : Below w.heap.size w ((w.alloc (Obj.cells #[.int .i64 1, .int .i64 0, .slice none 0 0, .slice none 0 0, .string nm, .int .i64 cpu, .int .i64 mem, .slice a1 n1 c1, .slice a2 n2 c2, .bool cl] 35 (0, 0))).alloc (Obj.cells #[.pointer none, .slice none 0 0] 82 (0, 0))) := ((Below.refl _ _).alloc (Nat.le_refl _) _).alloc (by omega) _
  generalize (w.alloc (Obj.cells #[.int .i64 1, .int .i64 0, .slice none 0 0, .slice none 0 0, .string nm, .int .i64 cpu, .int .i64 mem, .slice a1 n1 c1, .slice a2 n2 c2, .bool cl] 35 (0, 0))).alloc (Obj.cells #[.pointer none, .slice none 0 0] 82 (0, 0)) = W at *
  have hI : InW (w.heap.size + 1) (w.heap.size + 1) [] W := .inl ⟨Nat.le_refl _, .slice none 0 0, bW, (by simp [World.ownsRow]), by simp [Value.ownBlock]⟩
  have hI' : InW (w.heap.size + 1) (w.heap.size + 1) [] W.drew := hI
  have hl4 : ([] : List Value).length + (verbB 1).size ≤ 1000000000 := by decide +kernel
  have hW1 := bW.lt
  have hW2 : w.heap.size + 1 ≤ W.drew.heap.size := Nat.le_of_lt hW1
  have c0 : W.drew.cell? ⟨w.heap.size, 0, none⟩ = some (.int .i64 1) := bR.cell rfl
  have c0' : W.cell? ⟨w.heap.size, 0, none⟩ = some (.int .i64 1) := bR.cell rfl
  have hT1 : TabB w.heap.size W.drew := hT.on hB0.drew
  clear hT
  go_cut [] (fun wx => AtW (w.heap.size + 1) (w.heap.size + 1) (Lib.byteCells (vb 1)) wx ∧ Below (w.heap.size + 1) W.drew wx)
  case first =>
    go_region_with (first
      | (go_at_call 44; refine (verbOf_any 1 (by decide) (by decide) _).mono ?_; rintro e w1 ⟨rfl, rfl⟩)
      | (go_at_call 43; refine (writeString_any (w.heap.size + 1) (w.heap.size + 1) [] _ _ hI' hl4 hW2).mono ?_; rintro e w2 ⟨rfl, h2, hb2, hf2⟩))
    all_goals
      go_wp2
      go_meet
      case rel => exact ⟨h2, hb2⟩
  case rest =>
    obtain ⟨hA, hbA⟩ := hcut
    have f0 := cell_below hbA c0 (Nat.lt_succ_self _)
    have f4 := cell_below hbA (a := ⟨w.heap.size, 4, none⟩) (v := .string nm) (bR.cell rfl) (Nat.lt_succ_self _)
    have f5 := cell_below hbA (a := ⟨w.heap.size, 5, none⟩) (v := .int .i64 cpu) (bR.cell rfl) (Nat.lt_succ_self _)
    have f6 := cell_below hbA (a := ⟨w.heap.size, 6, none⟩) (v := .int .i64 mem) (bR.cell rfl) (Nat.lt_succ_self _)
    have f7 := cell_below hbA (a := ⟨w.heap.size, 7, none⟩) (v := .slice a1 n1 c1) (bR.cell rfl) (Nat.lt_succ_self _)
    have f8 := cell_below hbA (a := ⟨w.heap.size, 8, none⟩) (v := .slice a2 n2 c2) (bR.cell rfl) (Nat.lt_succ_self _)
    have f9 := cell_below hbA (a := ⟨w.heap.size, 9, none⟩) (v := .bool cl) (bR.cell rfl) (Nat.lt_succ_self _)
    have hsA : w.heap.size + 1 ≤ wc.heap.size := Nat.le_trans hW2 hbA.size
    have hTA : TabB (w.heap.size + 1) wc := (hT1.up (Nat.le_succ _)).on hbA
    have hBt : Below w.heap.size w wc := (hB0.drew).trans (hbA.mono (Nat.le_succ _))
    have kF := node_l (w.heap.size + 1) (w.heap.size + 1) (vb 1) nm cpu mem a1 a2 n1 c1 n2 c2 xs ys cl wc hA (h1.on l1 hBt) (h2.on l2 hBt) e1'.out e2'.out (fun x hx => Nat.lt_succ_of_lt (l1 x hx)) (fun x hx => Nat.lt_succ_of_lt (l2 x hx)) z1 z2 zn zc zm (by decide) hsA hTA
    clear hTA hT1
    go_wp2_with (first
      | (go_at_call 45; refine kF.mono ?_; rintro e w3 ⟨rfl, hF, hbF, _⟩)
      | (go_at_call 50; refine (string_at (w.heap.size + 1) (w.heap.size + 1) _ _ hF (by simp [vb, wordT, numT, nodeT])).mono ?_; rintro e w6 ⟨rfl, hb6⟩))
    refine bodyPost_ret (by simp [results, Tryd.results30, go_sem]) rfl ⟨rfl, (hB0.drew).trans (((hbA.trans hbF).trans hb6).mono (Nat.le_succ _))⟩

theorem text_node (nm : ByteArray) (cpu mem : Nat) (a1 a2 : Option Addr) (n1 c1 n2 c2 : Nat) (xs ys : List ByteArray) (cl : Bool) (w : World) (h1 : Strs w a1 xs) (h2 : Strs w a2 ys) (e1 : xs.length = n1) (e2 : ys.length = n2) (l1 : Low w.heap.size a1) (l2 : Low w.heap.size a2) (z1 : ∀ s ∈ xs, s.size ≤ 10000) (z2 : ∀ s ∈ ys, s.size ≤ 10000) (zn : nm.size ≤ 10000) (zc : cpu ≤ 9223372036854775807) (zm : mem ≤ 9223372036854775807) (hT : TabB w.heap.size w) : Calls Tryd.prog 16 #[.agg #[.int .i64 1, .int .i64 0, .slice none 0 0, .slice none 0 0, .string nm, .int .i64 cpu, .int .i64 mem, .slice a1 n1 c1, .slice a2 n2 c2, .bool cl]] w fun e w' => e = .returned (.string ⟨(vb 1 ++ nodeT ⟨nm, cpu, mem, xs, ys, cl⟩).toArray⟩) ∧ Below w.heap.size w w' := by
  have hb0 : Below w.heap.size w (w.alloc (Obj.cells #[.int .i64 1, .int .i64 0, .slice none 0 0, .slice none 0 0, .string nm, .int .i64 cpu, .int .i64 mem, .slice a1 n1 c1, .slice a2 n2 c2, .bool cl] 35 (0, 0))) := up (Below.refl _ _) _
  have q := Box.new w #[.int .i64 1, .int .i64 0, .slice none 0 0, .slice none 0 0, .string nm, .int .i64 cpu, .int .i64 mem, .slice a1 n1 c1, .slice a2 n2 c2, .bool cl] 35 rfl
  obtain ⟨x0, x1, x2, x3, x4, x5, x6, x7, x8, x9⟩ := RecBox.cells q
  have kw := write_node nm cpu mem a1 a2 n1 c1 n2 c2 xs ys cl (w.alloc (Obj.cells #[.int .i64 1, .int .i64 0, .slice none 0 0, .slice none 0 0, .string nm, .int .i64 cpu, .int .i64 mem, .slice a1 n1 c1, .slice a2 n2 c2, .bool cl] 35 (0, 0))) (h1.on l1 hb0) (h2.on l2 hb0) e1 e2 (fun x hx => Nat.lt_of_lt_of_le (l1 x hx) hb0.size) (fun x hx => Nat.lt_of_lt_of_le (l2 x hx) hb0.size) z1 z2 zn zc zm ((hT.on hb0).up hb0.size)
  clear hT
  go_enter Tryd.func16, Tryd.ntmps16
  go_wp2_with (go_at_call 30; refine kw.mono ?_; rintro e w1 ⟨rfl, hb1⟩)
  go_ret
  exact ⟨rfl, fin hb1 hb0⟩

set_option maxRecDepth 100000 in
set_option maxHeartbeats 4000000 in
theorem write_seven (g : Nat) (a : Option Addr) (n cp : Nat) (ps : List Nat) (w : World) (g2 : g ≤ 999999) (h : Nats w a ps) (en : ps.length = n) (hn1 : n ≤ 1000) (la : Low w.heap.size a) (zp : ∀ x ∈ ps, x ≤ 9223372036854775807) (hT : TabB w.heap.size w) : Calls Tryd.prog 30 #[.agg #[.int .i64 7, .int .i64 g, .slice a n cp, .slice none 0 0, .string ⟨#[]⟩, .int .i64 0, .int .i64 0, .slice none 0 0, .slice none 0 0, .bool false]] w fun e w' => e = .returned (.string ⟨(vb 7 ++ (numT 32 g ++ peersT 32 ps)).toArray⟩) ∧ Below w.heap.size w w' := by
  have en' : Hid (ps.length = n) := en
  clear en
  go_enter Tryd.func30, Tryd.ntmps30
  go_upto_region 4 with (first
    | (go_at_call 25; refine (known_all _ _).mono ?_; rintro e w1 ⟨rfl, rfl⟩))
  have hs : (w.alloc (Obj.cells #[.int .i64 7, .int .i64 g, .slice a n cp, .slice none 0 0, .string ⟨#[]⟩, .int .i64 0, .int .i64 0, .slice none 0 0, .slice none 0 0, .bool false] 35 (0, 0))).heap.size = w.heap.size + 1 := by simp
  have bR : Box ((w.alloc (Obj.cells #[.int .i64 7, .int .i64 g, .slice a n cp, .slice none 0 0, .string ⟨#[]⟩, .int .i64 0, .int .i64 0, .slice none 0 0, .slice none 0 0, .bool false] 35 (0, 0))).alloc (Obj.cells #[.pointer none, .slice none 0 0] 82 (0, 0))) w.heap.size #[.int .i64 7, .int .i64 g, .slice a n cp, .slice none 0 0, .string ⟨#[]⟩, .int .i64 0, .int .i64 0, .slice none 0 0, .slice none 0 0, .bool false] 35 := (Box.new w _ _ rfl).up _
  have bW : Box ((w.alloc (Obj.cells #[.int .i64 7, .int .i64 g, .slice a n cp, .slice none 0 0, .string ⟨#[]⟩, .int .i64 0, .int .i64 0, .slice none 0 0, .slice none 0 0, .bool false] 35 (0, 0))).alloc (Obj.cells #[.pointer none, .slice none 0 0] 82 (0, 0))) (w.heap.size + 1) #[.pointer none, .slice none 0 0] 82 := Box.new _ _ _ hs
  have hB0 : Below w.heap.size w ((w.alloc (Obj.cells #[.int .i64 7, .int .i64 g, .slice a n cp, .slice none 0 0, .string ⟨#[]⟩, .int .i64 0, .int .i64 0, .slice none 0 0, .slice none 0 0, .bool false] 35 (0, 0))).alloc (Obj.cells #[.pointer none, .slice none 0 0] 82 (0, 0))) := ((Below.refl _ _).alloc (Nat.le_refl _) _).alloc (by omega) _
  generalize (w.alloc (Obj.cells #[.int .i64 7, .int .i64 g, .slice a n cp, .slice none 0 0, .string ⟨#[]⟩, .int .i64 0, .int .i64 0, .slice none 0 0, .slice none 0 0, .bool false] 35 (0, 0))).alloc (Obj.cells #[.pointer none, .slice none 0 0] 82 (0, 0)) = W at *
  have hI : InW (w.heap.size + 1) (w.heap.size + 1) [] W := .inl ⟨Nat.le_refl _, .slice none 0 0, bW, (by simp [World.ownsRow]), by simp [Value.ownBlock]⟩
  have hI' : InW (w.heap.size + 1) (w.heap.size + 1) [] W.drew := hI
  have hl4 : ([] : List Value).length + (verbB 7).size ≤ 1000000000 := by decide +kernel
  have hW1 := bW.lt
  have hW2 : w.heap.size + 1 ≤ W.drew.heap.size := Nat.le_of_lt hW1
  have c0 : W.drew.cell? ⟨w.heap.size, 0, none⟩ = some (.int .i64 7) := bR.cell rfl
  have c0' : W.cell? ⟨w.heap.size, 0, none⟩ = some (.int .i64 7) := bR.cell rfl
  have hT1 : TabB w.heap.size W.drew := hT.on hB0.drew
  clear hT
  go_cut [] (fun wx => AtW (w.heap.size + 1) (w.heap.size + 1) (Lib.byteCells (vb 7)) wx ∧ Below (w.heap.size + 1) W.drew wx)
  case first =>
    go_region_with (first
      | (go_at_call 44; refine (verbOf_any 7 (by decide) (by decide) _).mono ?_; rintro e w1 ⟨rfl, rfl⟩)
      | (go_at_call 43; refine (writeString_any (w.heap.size + 1) (w.heap.size + 1) [] _ _ hI' hl4 hW2).mono ?_; rintro e w2 ⟨rfl, h2, hb2, hf2⟩))
    all_goals
      go_wp2
      go_meet
      case rel => exact ⟨h2, hb2⟩
  case rest =>
    obtain ⟨hA, hbA⟩ := hcut
    have f0 := cell_below hbA c0 (Nat.lt_succ_self _)
    have f1 := cell_below hbA (a := ⟨w.heap.size, 1, none⟩) (v := .int .i64 g) (bR.cell rfl) (Nat.lt_succ_self _)
    have f2 := cell_below hbA (a := ⟨w.heap.size, 2, none⟩) (v := .slice a n cp) (bR.cell rfl) (Nat.lt_succ_self _)
    have f3 := cell_below hbA (a := ⟨w.heap.size, 3, none⟩) (v := .slice none 0 0) (bR.cell rfl) (Nat.lt_succ_self _)
    have hsA : w.heap.size + 1 ≤ wc.heap.size := Nat.le_trans hW2 hbA.size
    have hTA : TabB (w.heap.size + 1) wc := (hT1.up (Nat.le_succ _)).on hbA
    have hBt : Below w.heap.size w wc := (hB0.drew).trans (hbA.mono (Nat.le_succ _))
    have lv : (vb 7).length ≤ 10 := by decide
    have lg := numT_len 32 g (by omega)
    have lp := peersT_len ps 32 zp
    have e' := en'.out
    have k1 := number_l (w.heap.size + 1) (w.heap.size + 1) (vb 7) 32 32 g wc (by omega) (by decide) (by decide) hA (by omega) hsA hTA
    have k2 := fun W (hAW : AtW (w.heap.size + 1) (w.heap.size + 1) (Lib.byteCells (vb 7 ++ numT 32 g)) W) (hbW : Below (w.heap.size + 1) wc W) => wPeers_l (w.heap.size + 1) (w.heap.size + 1) (vb 7 ++ numT 32 g) a n cp ps W hAW ((h.on la hBt).on (fun x hx => Nat.lt_succ_of_lt (la x hx)) hbW) en'.out hn1 (fun x hx => Nat.lt_succ_of_lt (la x hx)) zp (by rw [List.length_append]; omega) (Nat.le_trans hsA hbW.size) (hTA.on hbW)
    clear e'
    clear hTA hT1
    go_wp2_with (first
      | (go_at_call 47; refine k1.mono ?_; rintro e w3 ⟨rfl, h3, hb3, _⟩; have g2 := cell_below hb3 f2 (Nat.lt_succ_self _); have g3 := cell_below hb3 f3 (Nat.lt_succ_self _))
      | (go_at_call 48; refine (k2 _ h3 hb3).mono ?_; rintro e w4 ⟨rfl, hF, hb4, _⟩; simp only [List.append_assoc] at hF; have hbF := hb3.trans hb4; have i3 := cell_below hb4 g3 (Nat.lt_succ_self _))
      | (go_at_call 49; refine (wPlaces_none _ _).mono ?_; rintro e w5 ⟨rfl, rfl⟩)
      | (go_at_call 50; refine (string_at (w.heap.size + 1) (w.heap.size + 1) _ _ hF (by simp [vb, wordT, numT, nodeT])).mono ?_; rintro e w6 ⟨rfl, hb6⟩))
    refine bodyPost_ret (by simp [results, Tryd.results30, go_sem]) rfl ⟨rfl, (hB0.drew).trans (((hbA.trans hbF).trans hb6).mono (Nat.le_succ _))⟩

theorem text_seven (g : Nat) (a : Option Addr) (n cp : Nat) (ps : List Nat) (w : World) (g2 : g ≤ 999999) (h : Nats w a ps) (en : ps.length = n) (hn1 : n ≤ 1000) (la : Low w.heap.size a) (zp : ∀ x ∈ ps, x ≤ 9223372036854775807) (hT : TabB w.heap.size w) : Calls Tryd.prog 16 #[.agg #[.int .i64 7, .int .i64 g, .slice a n cp, .slice none 0 0, .string ⟨#[]⟩, .int .i64 0, .int .i64 0, .slice none 0 0, .slice none 0 0, .bool false]] w fun e w' => e = .returned (.string ⟨(vb 7 ++ (numT 32 g ++ peersT 32 ps)).toArray⟩) ∧ Below w.heap.size w w' := by
  have hb0 : Below w.heap.size w (w.alloc (Obj.cells #[.int .i64 7, .int .i64 g, .slice a n cp, .slice none 0 0, .string ⟨#[]⟩, .int .i64 0, .int .i64 0, .slice none 0 0, .slice none 0 0, .bool false] 35 (0, 0))) := up (Below.refl _ _) _
  have q := Box.new w #[.int .i64 7, .int .i64 g, .slice a n cp, .slice none 0 0, .string ⟨#[]⟩, .int .i64 0, .int .i64 0, .slice none 0 0, .slice none 0 0, .bool false] 35 rfl
  obtain ⟨x0, x1, x2, x3, x4, x5, x6, x7, x8, x9⟩ := RecBox.cells q
  have kw := write_seven g a n cp ps (w.alloc (Obj.cells #[.int .i64 7, .int .i64 g, .slice a n cp, .slice none 0 0, .string ⟨#[]⟩, .int .i64 0, .int .i64 0, .slice none 0 0, .slice none 0 0, .bool false] 35 (0, 0))) g2 (h.on la hb0) en hn1 (fun x hx => Nat.lt_of_lt_of_le (la x hx) hb0.size) zp ((hT.on hb0).up hb0.size)
  clear hT
  go_enter Tryd.func16, Tryd.ntmps16
  go_wp2_with (go_at_call 30; refine kw.mono ?_; rintro e w1 ⟨rfl, hb1⟩)
  go_ret
  exact ⟨rfl, fin hb1 hb0⟩

set_option maxRecDepth 100000 in
set_option maxHeartbeats 4000000 in
theorem write_three (g : Nat) (a a2 : Option Addr) (n cp n2 c2 : Nat) (ps : List Nat) (qs : List PlaceB) (w : World) (g2 : g ≤ 999999) (h : Nats w a ps) (en : ps.length = n) (hn1 : n ≤ 1000) (la : Low w.heap.size a) (zp : ∀ x ∈ ps, x ≤ 9223372036854775807) (hq : Pls w a2 qs) (eq : qs.length = n2) (hq1 : n2 ≤ 1000) (lq : Low w.heap.size a2) (zq : ∀ p ∈ qs, FewP p) (hT : TabB w.heap.size w) : Calls Tryd.prog 30 #[.agg #[.int .i64 3, .int .i64 g, .slice a n cp, .slice a2 n2 c2, .string ⟨#[]⟩, .int .i64 0, .int .i64 0, .slice none 0 0, .slice none 0 0, .bool false]] w fun e w' => e = .returned (.string ⟨(vb 3 ++ (numT 32 g ++ (peersT 32 ps ++ placesT qs))).toArray⟩) ∧ Below w.heap.size w w' := by
  have en' : Hid (ps.length = n) := en
  have eq' : Hid (qs.length = n2) := eq
  clear en eq
  go_enter Tryd.func30, Tryd.ntmps30
  go_upto_region 4 with (first
    | (go_at_call 25; refine (known_all _ _).mono ?_; rintro e w1 ⟨rfl, rfl⟩))
  have hs : (w.alloc (Obj.cells #[.int .i64 3, .int .i64 g, .slice a n cp, .slice a2 n2 c2, .string ⟨#[]⟩, .int .i64 0, .int .i64 0, .slice none 0 0, .slice none 0 0, .bool false] 35 (0, 0))).heap.size = w.heap.size + 1 := by simp
  have bR : Box ((w.alloc (Obj.cells #[.int .i64 3, .int .i64 g, .slice a n cp, .slice a2 n2 c2, .string ⟨#[]⟩, .int .i64 0, .int .i64 0, .slice none 0 0, .slice none 0 0, .bool false] 35 (0, 0))).alloc (Obj.cells #[.pointer none, .slice none 0 0] 82 (0, 0))) w.heap.size #[.int .i64 3, .int .i64 g, .slice a n cp, .slice a2 n2 c2, .string ⟨#[]⟩, .int .i64 0, .int .i64 0, .slice none 0 0, .slice none 0 0, .bool false] 35 := (Box.new w _ _ rfl).up _
  have bW : Box ((w.alloc (Obj.cells #[.int .i64 3, .int .i64 g, .slice a n cp, .slice a2 n2 c2, .string ⟨#[]⟩, .int .i64 0, .int .i64 0, .slice none 0 0, .slice none 0 0, .bool false] 35 (0, 0))).alloc (Obj.cells #[.pointer none, .slice none 0 0] 82 (0, 0))) (w.heap.size + 1) #[.pointer none, .slice none 0 0] 82 := Box.new _ _ _ hs
  have hB0 : Below w.heap.size w ((w.alloc (Obj.cells #[.int .i64 3, .int .i64 g, .slice a n cp, .slice a2 n2 c2, .string ⟨#[]⟩, .int .i64 0, .int .i64 0, .slice none 0 0, .slice none 0 0, .bool false] 35 (0, 0))).alloc (Obj.cells #[.pointer none, .slice none 0 0] 82 (0, 0))) := ((Below.refl _ _).alloc (Nat.le_refl _) _).alloc (by omega) _
  generalize (w.alloc (Obj.cells #[.int .i64 3, .int .i64 g, .slice a n cp, .slice a2 n2 c2, .string ⟨#[]⟩, .int .i64 0, .int .i64 0, .slice none 0 0, .slice none 0 0, .bool false] 35 (0, 0))).alloc (Obj.cells #[.pointer none, .slice none 0 0] 82 (0, 0)) = W at *
  have hI : InW (w.heap.size + 1) (w.heap.size + 1) [] W := .inl ⟨Nat.le_refl _, .slice none 0 0, bW, (by simp [World.ownsRow]), by simp [Value.ownBlock]⟩
  have hI' : InW (w.heap.size + 1) (w.heap.size + 1) [] W.drew := hI
  have hl4 : ([] : List Value).length + (verbB 3).size ≤ 1000000000 := by decide +kernel
  have hW1 := bW.lt
  have hW2 : w.heap.size + 1 ≤ W.drew.heap.size := Nat.le_of_lt hW1
  have c0 : W.drew.cell? ⟨w.heap.size, 0, none⟩ = some (.int .i64 3) := bR.cell rfl
  have c0' : W.cell? ⟨w.heap.size, 0, none⟩ = some (.int .i64 3) := bR.cell rfl
  have hT1 : TabB w.heap.size W.drew := hT.on hB0.drew
  clear hT
  go_cut [] (fun wx => AtW (w.heap.size + 1) (w.heap.size + 1) (Lib.byteCells (vb 3)) wx ∧ Below (w.heap.size + 1) W.drew wx)
  case first =>
    go_region_with (first
      | (go_at_call 44; refine (verbOf_any 3 (by decide) (by decide) _).mono ?_; rintro e w1 ⟨rfl, rfl⟩)
      | (go_at_call 43; refine (writeString_any (w.heap.size + 1) (w.heap.size + 1) [] _ _ hI' hl4 hW2).mono ?_; rintro e w2 ⟨rfl, h2, hb2, hf2⟩))
    all_goals
      go_wp2
      go_meet
      case rel => exact ⟨h2, hb2⟩
  case rest =>
    obtain ⟨hA, hbA⟩ := hcut
    have f0 := cell_below hbA c0 (Nat.lt_succ_self _)
    have f1 := cell_below hbA (a := ⟨w.heap.size, 1, none⟩) (v := .int .i64 g) (bR.cell rfl) (Nat.lt_succ_self _)
    have f2 := cell_below hbA (a := ⟨w.heap.size, 2, none⟩) (v := .slice a n cp) (bR.cell rfl) (Nat.lt_succ_self _)
    have f3 := cell_below hbA (a := ⟨w.heap.size, 3, none⟩) (v := .slice a2 n2 c2) (bR.cell rfl) (Nat.lt_succ_self _)
    have hsA : w.heap.size + 1 ≤ wc.heap.size := Nat.le_trans hW2 hbA.size
    have hTA : TabB (w.heap.size + 1) wc := (hT1.up (Nat.le_succ _)).on hbA
    have hBt : Below w.heap.size w wc := (hB0.drew).trans (hbA.mono (Nat.le_succ _))
    have lv : (vb 3).length ≤ 10 := by decide
    have lg := numT_len 32 g (by omega)
    have lp := peersT_len ps 32 zp
    have e' := en'.out
    have k1 := number_l (w.heap.size + 1) (w.heap.size + 1) (vb 3) 32 32 g wc (by omega) (by decide) (by decide) hA (by omega) hsA hTA
    have k2 := fun W (hAW : AtW (w.heap.size + 1) (w.heap.size + 1) (Lib.byteCells (vb 3 ++ numT 32 g)) W) (hbW : Below (w.heap.size + 1) wc W) => wPeers_l (w.heap.size + 1) (w.heap.size + 1) (vb 3 ++ numT 32 g) a n cp ps W hAW ((h.on la hBt).on (fun x hx => Nat.lt_succ_of_lt (la x hx)) hbW) en'.out hn1 (fun x hx => Nat.lt_succ_of_lt (la x hx)) zp (by rw [List.length_append]; omega) (Nat.le_trans hsA hbW.size) (hTA.on hbW)
    have k3 := fun W (hAW : AtW (w.heap.size + 1) (w.heap.size + 1) (Lib.byteCells (vb 3 ++ numT 32 g ++ peersT 32 ps)) W) (hbW : Below (w.heap.size + 1) wc W) => places_l (w.heap.size + 1) (w.heap.size + 1) (vb 3 ++ numT 32 g ++ peersT 32 ps) a2 n2 c2 qs W hAW ((hq.on lq hBt).on (fun x hx => Nat.lt_succ_of_lt (lq x hx)) hbW) eq'.out hq1 (fun x hx => Nat.lt_succ_of_lt (lq x hx)) zq (by rw [List.length_append, List.length_append]; omega) (Nat.le_trans hsA hbW.size) (hTA.on hbW)
    clear e'
    clear hTA hT1
    go_wp2_with (first
      | (go_at_call 47; refine k1.mono ?_; rintro e w3 ⟨rfl, h3, hb3, _⟩; have g2 := cell_below hb3 f2 (Nat.lt_succ_self _); have g3 := cell_below hb3 f3 (Nat.lt_succ_self _))
      | (go_at_call 48; refine (k2 _ h3 hb3).mono ?_; rintro e w4 ⟨rfl, h4, hb4, _⟩; have hb34 := hb3.trans hb4; have i3 := cell_below hb4 g3 (Nat.lt_succ_self _))
      | (go_at_call 49; refine (k3 _ h4 hb34).mono ?_; rintro e w5 ⟨rfl, hF, hb5, _⟩; simp only [List.append_assoc] at hF; have hbF := hb34.trans hb5)
      | (go_at_call 50; refine (string_at (w.heap.size + 1) (w.heap.size + 1) _ _ hF (by simp [vb, wordT, numT, nodeT])).mono ?_; rintro e w6 ⟨rfl, hb6⟩))
    refine bodyPost_ret (by simp [results, Tryd.results30, go_sem]) rfl ⟨rfl, (hB0.drew).trans (((hbA.trans hbF).trans hb6).mono (Nat.le_succ _))⟩

theorem text_three (g : Nat) (a a2 : Option Addr) (n cp n2 c2 : Nat) (ps : List Nat) (qs : List PlaceB) (w : World) (g2 : g ≤ 999999) (h : Nats w a ps) (en : ps.length = n) (hn1 : n ≤ 1000) (la : Low w.heap.size a) (zp : ∀ x ∈ ps, x ≤ 9223372036854775807) (hq : Pls w a2 qs) (eq : qs.length = n2) (hq1 : n2 ≤ 1000) (lq : Low w.heap.size a2) (zq : ∀ p ∈ qs, FewP p) (hT : TabB w.heap.size w) : Calls Tryd.prog 16 #[.agg #[.int .i64 3, .int .i64 g, .slice a n cp, .slice a2 n2 c2, .string ⟨#[]⟩, .int .i64 0, .int .i64 0, .slice none 0 0, .slice none 0 0, .bool false]] w fun e w' => e = .returned (.string ⟨(vb 3 ++ (numT 32 g ++ (peersT 32 ps ++ placesT qs))).toArray⟩) ∧ Below w.heap.size w w' := by
  have hb0 : Below w.heap.size w (w.alloc (Obj.cells #[.int .i64 3, .int .i64 g, .slice a n cp, .slice a2 n2 c2, .string ⟨#[]⟩, .int .i64 0, .int .i64 0, .slice none 0 0, .slice none 0 0, .bool false] 35 (0, 0))) := up (Below.refl _ _) _
  have q := Box.new w #[.int .i64 3, .int .i64 g, .slice a n cp, .slice a2 n2 c2, .string ⟨#[]⟩, .int .i64 0, .int .i64 0, .slice none 0 0, .slice none 0 0, .bool false] 35 rfl
  obtain ⟨x0, x1, x2, x3, x4, x5, x6, x7, x8, x9⟩ := RecBox.cells q
  have kw := write_three g a a2 n cp n2 c2 ps qs (w.alloc (Obj.cells #[.int .i64 3, .int .i64 g, .slice a n cp, .slice a2 n2 c2, .string ⟨#[]⟩, .int .i64 0, .int .i64 0, .slice none 0 0, .slice none 0 0, .bool false] 35 (0, 0))) g2 (h.on la hb0) en hn1 (fun x hx => Nat.lt_of_lt_of_le (la x hx) hb0.size) zp (hq.on lq hb0) eq hq1 (fun x hx => Nat.lt_of_lt_of_le (lq x hx) hb0.size) zq ((hT.on hb0).up hb0.size)
  clear hT
  go_enter Tryd.func16, Tryd.ntmps16
  go_wp2_with (go_at_call 30; refine kw.mono ?_; rintro e w1 ⟨rfl, hb1⟩)
  go_ret
  exact ⟨rfl, fin hb1 hb0⟩

end Go.Proofs.YtmldpihjndafaabDoor
