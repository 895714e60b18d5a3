/- Text of a record of one number. -/
import Derived.Test.YtmldpihjndafaabDoorUB
namespace Go.Proofs.YtmldpihjndafaabDoor
open Go.RowKit
set_option linter.unusedSimpArgs false
set_option linter.unusedVariables false

theorem wPeers_none (b : Nat) (w : World) : Calls Tryd.prog 48 #[.pointer (some ⟨b, 0, none⟩), .slice none 0 0] w fun e w' => e = .returned (.tuple #[]) ∧ w' = w := by
  go_enter Tryd.func48, Tryd.ntmps48
  go_wp2
  go_loopw [9] (fun i wr => i = .int .i64 0 ∧ wr = w) (fun _ _ => 0)
  case atStart => exact ⟨rfl, rfl⟩
  case round =>
    obtain ⟨rfl, rfl⟩ := hrel
    go_wp2
    go_end0
    exact ⟨rfl, rfl⟩

theorem wPlaces_none (b : Nat) (w : World) : Calls Tryd.prog 49 #[.pointer (some ⟨b, 0, none⟩), .slice none 0 0] w fun e w' => e = .returned (.tuple #[]) ∧ w' = w := by
  go_enter Tryd.func49, Tryd.ntmps49
  go_wp2
  go_loopw [8] (fun i wr => i = .int .i64 0 ∧ wr = w) (fun _ _ => 0)
  case atStart => exact ⟨rfl, rfl⟩
  case round =>
    obtain ⟨rfl, rfl⟩ := hrel
    go_wp2
    go_end0
    exact ⟨rfl, rfl⟩


set_option maxRecDepth 100000 in
set_option maxHeartbeats 4000000 in
theorem write_four (g : Nat) (w : World) (hg : g ≤ 9223372036854775807) (hT : TabB w.heap.size w) : Calls Tryd.prog 30 #[.agg #[.int .i64 4, .int .i64 g, .slice none 0 0, .slice none 0 0, .string ⟨#[]⟩, .int .i64 0, .int .i64 0, .slice none 0 0, .slice none 0 0, .bool false]] w fun e w' => e = .returned (.string ⟨((verbB 4).data.toList ++ numT 32 g).toArray⟩) ∧ Below w.heap.size w w' := by
  go_enter Tryd.func30, Tryd.ntmps30
  go_upto_region 4 with (first
    | (go_at_call 25; refine (known_all _ _).mono ?_; rintro e w1 ⟨rfl, rfl⟩))
  have hs : (w.alloc (Obj.cells #[.int .i64 4, .int .i64 g, .slice none 0 0, .slice none 0 0, .string ⟨#[]⟩, .int .i64 0, .int .i64 0, .slice none 0 0, .slice none 0 0, .bool false] 35 (0, 0))).heap.size = w.heap.size + 1 := by simp
  have bR : Box ((w.alloc (Obj.cells #[.int .i64 4, .int .i64 g, .slice none 0 0, .slice none 0 0, .string ⟨#[]⟩, .int .i64 0, .int .i64 0, .slice none 0 0, .slice none 0 0, .bool false] 35 (0, 0))).alloc (Obj.cells #[.pointer none, .slice none 0 0] 82 (0, 0))) w.heap.size #[.int .i64 4, .int .i64 g, .slice none 0 0, .slice none 0 0, .string ⟨#[]⟩, .int .i64 0, .int .i64 0, .slice none 0 0, .slice none 0 0, .bool false] 35 := (Box.new w _ _ rfl).up _
  have bW : Box ((w.alloc (Obj.cells #[.int .i64 4, .int .i64 g, .slice none 0 0, .slice none 0 0, .string ⟨#[]⟩, .int .i64 0, .int .i64 0, .slice none 0 0, .slice none 0 0, .bool false] 35 (0, 0))).alloc (Obj.cells #[.pointer none, .slice none 0 0] 82 (0, 0))) (w.heap.size + 1) #[.pointer none, .slice none 0 0] 82 := Box.new _ _ _ hs
  have hB0 : Below w.heap.size w ((w.alloc (Obj.cells #[.int .i64 4, .int .i64 g, .slice none 0 0, .slice none 0 0, .string ⟨#[]⟩, .int .i64 0, .int .i64 0, .slice none 0 0, .slice none 0 0, .bool false] 35 (0, 0))).alloc (Obj.cells #[.pointer none, .slice none 0 0] 82 (0, 0))) := ((Below.refl _ _).alloc (Nat.le_refl _) _).alloc (by omega) _
  generalize (w.alloc (Obj.cells #[.int .i64 4, .int .i64 g, .slice none 0 0, .slice none 0 0, .string ⟨#[]⟩, .int .i64 0, .int .i64 0, .slice none 0 0, .slice none 0 0, .bool false] 35 (0, 0))).alloc (Obj.cells #[.pointer none, .slice none 0 0] 82 (0, 0)) = W at *
  have hI : InW (w.heap.size + 1) (w.heap.size + 1) [] W := .inl ⟨Nat.le_refl _, .slice none 0 0, bW, (by simp [World.ownsRow]), by simp [Value.ownBlock]⟩
  have hI' : InW (w.heap.size + 1) (w.heap.size + 1) [] W.drew := hI
  have hl4 : ([] : List Value).length + (verbB 4).size ≤ 1000000000 := by decide +kernel
  have hW1 := bW.lt
  have hW2 : w.heap.size + 1 ≤ W.drew.heap.size := Nat.le_of_lt hW1
  have c0 : W.drew.cell? ⟨w.heap.size, 0, none⟩ = some (.int .i64 4) := bR.cell rfl
  have c0' : W.cell? ⟨w.heap.size, 0, none⟩ = some (.int .i64 4) := bR.cell rfl
  have hT1 : TabB w.heap.size W.drew := hT.on hB0.drew
  clear hT
  go_cut [] (fun wx => AtW (w.heap.size + 1) (w.heap.size + 1) (Lib.byteCells (verbB 4).data.toList) wx ∧ Below (w.heap.size + 1) W.drew wx)
  case first =>
    go_region_with (first
      | (go_at_call 44; refine (verbOf_any 4 (by decide) (by decide) _).mono ?_; rintro e w1 ⟨rfl, rfl⟩)
      | (go_at_call 43; refine (writeString_any (w.heap.size + 1) (w.heap.size + 1) [] _ _ hI' hl4 hW2).mono ?_; rintro e w2 ⟨rfl, h2, hb2, hf2⟩))
    all_goals
      go_wp2
      go_meet
      case rel => exact ⟨h2, hb2⟩
  case rest =>
    obtain ⟨hA, hbA⟩ := hcut
    have f0 := cell_below hbA c0 (Nat.lt_succ_self _)
    have f1 := cell_below hbA (a := ⟨w.heap.size, 1, none⟩) (v := .int .i64 g) (bR.cell rfl) (Nat.lt_succ_self _)
    have f2 := cell_below hbA (a := ⟨w.heap.size, 2, none⟩) (v := .slice none 0 0) (bR.cell rfl) (Nat.lt_succ_self _)
    have f3 := cell_below hbA (a := ⟨w.heap.size, 3, none⟩) (v := .slice none 0 0) (bR.cell rfl) (Nat.lt_succ_self _)
    have hsA : w.heap.size + 1 ≤ wc.heap.size := Nat.le_trans hW2 hbA.size
    have hTA : TabB (w.heap.size + 1) wc := (hT1.up (Nat.le_succ _)).on hbA
    have hnum := number_l (w.heap.size + 1) (w.heap.size + 1) (verbB 4).data.toList 32 32 g wc hg (by decide) (by decide) hA (by decide) hsA hTA
    clear hTA hT1
    go_wp2_with (first
      | (go_at_call 47; refine hnum.mono ?_; rintro e w3 ⟨rfl, h3, hb3, hf3⟩; have g2 := cell_below hb3 f2 (Nat.lt_succ_self _); have g3 := cell_below hb3 f3 (Nat.lt_succ_self _))
      | (go_at_call 48; refine (wPeers_none _ _).mono ?_; rintro e w4 ⟨rfl, rfl⟩)
      | (go_at_call 49; refine (wPlaces_none _ _).mono ?_; rintro e w5 ⟨rfl, rfl⟩)
      | (go_at_call 50; refine (string_at (w.heap.size + 1) (w.heap.size + 1) _ _ h3 (by simp [numT])).mono ?_; rintro e w6 ⟨rfl, hb6⟩))
    refine bodyPost_ret (by simp [results, Tryd.results30, go_sem]) rfl ⟨rfl, (hB0.drew).trans (((hbA.trans hb3).trans hb6).mono (Nat.le_succ _))⟩

theorem text_four (g : Nat) (w : World) (hg : g ≤ 9223372036854775807) (hT : TabB w.heap.size w) : Calls Tryd.prog 16 #[.agg #[.int .i64 4, .int .i64 g, .slice none 0 0, .slice none 0 0, .string ⟨#[]⟩, .int .i64 0, .int .i64 0, .slice none 0 0, .slice none 0 0, .bool false]] w fun e w' => e = .returned (.string ⟨((verbB 4).data.toList ++ numT 32 g).toArray⟩) ∧ Below w.heap.size w w' := by
  have hb0 : Below w.heap.size w (w.alloc (Obj.cells #[.int .i64 4, .int .i64 g, .slice none 0 0, .slice none 0 0, .string ⟨#[]⟩, .int .i64 0, .int .i64 0, .slice none 0 0, .slice none 0 0, .bool false] 35 (0, 0))) := up (Below.refl _ _) _
  have q := Box.new w #[.int .i64 4, .int .i64 g, .slice none 0 0, .slice none 0 0, .string ⟨#[]⟩, .int .i64 0, .int .i64 0, .slice none 0 0, .slice none 0 0, .bool false] 35 rfl
  obtain ⟨x0, x1, x2, x3, x4, x5, x6, x7, x8, x9⟩ := RecBox.cells q
  have kw := write_four g (w.alloc (Obj.cells #[.int .i64 4, .int .i64 g, .slice none 0 0, .slice none 0 0, .string ⟨#[]⟩, .int .i64 0, .int .i64 0, .slice none 0 0, .slice none 0 0, .bool false] 35 (0, 0))) hg ((hT.on hb0).up hb0.size)
  clear hT
  go_enter Tryd.func16, Tryd.ntmps16
  go_wp2_with (go_at_call 30; refine kw.mono ?_; rintro e w1 ⟨rfl, hb1⟩)
  go_ret
  exact ⟨rfl, fin hb1 hb0⟩

set_option maxRecDepth 100000 in
set_option maxHeartbeats 4000000 in
theorem write_five (g : Nat) (w : World) (hg : g ≤ 9223372036854775807) (hT : TabB w.heap.size w) : Calls Tryd.prog 30 #[.agg #[.int .i64 5, .int .i64 g, .slice none 0 0, .slice none 0 0, .string ⟨#[]⟩, .int .i64 0, .int .i64 0, .slice none 0 0, .slice none 0 0, .bool false]] w fun e w' => e = .returned (.string ⟨((verbB 5).data.toList ++ numT 32 g).toArray⟩) ∧ Below w.heap.size w w' := by
  go_enter Tryd.func30, Tryd.ntmps30
  go_upto_region 4 with (first
    | (go_at_call 25; refine (known_all _ _).mono ?_; rintro e w1 ⟨rfl, rfl⟩))
  have hs : (w.alloc (Obj.cells #[.int .i64 5, .int .i64 g, .slice none 0 0, .slice none 0 0, .string ⟨#[]⟩, .int .i64 0, .int .i64 0, .slice none 0 0, .slice none 0 0, .bool false] 35 (0, 0))).heap.size = w.heap.size + 1 := by simp
  have bR : Box ((w.alloc (Obj.cells #[.int .i64 5, .int .i64 g, .slice none 0 0, .slice none 0 0, .string ⟨#[]⟩, .int .i64 0, .int .i64 0, .slice none 0 0, .slice none 0 0, .bool false] 35 (0, 0))).alloc (Obj.cells #[.pointer none, .slice none 0 0] 82 (0, 0))) w.heap.size #[.int .i64 5, .int .i64 g, .slice none 0 0, .slice none 0 0, .string ⟨#[]⟩, .int .i64 0, .int .i64 0, .slice none 0 0, .slice none 0 0, .bool false] 35 := (Box.new w _ _ rfl).up _
  have bW : Box ((w.alloc (Obj.cells #[.int .i64 5, .int .i64 g, .slice none 0 0, .slice none 0 0, .string ⟨#[]⟩, .int .i64 0, .int .i64 0, .slice none 0 0, .slice none 0 0, .bool false] 35 (0, 0))).alloc (Obj.cells #[.pointer none, .slice none 0 0] 82 (0, 0))) (w.heap.size + 1) #[.pointer none, .slice none 0 0] 82 := Box.new _ _ _ hs
  have hB0 : Below w.heap.size w ((w.alloc (Obj.cells #[.int .i64 5, .int .i64 g, .slice none 0 0, .slice none 0 0, .string ⟨#[]⟩, .int .i64 0, .int .i64 0, .slice none 0 0, .slice none 0 0, .bool false] 35 (0, 0))).alloc (Obj.cells #[.pointer none, .slice none 0 0] 82 (0, 0))) := ((Below.refl _ _).alloc (Nat.le_refl _) _).alloc (by omega) _
  generalize (w.alloc (Obj.cells #[.int .i64 5, .int .i64 g, .slice none 0 0, .slice none 0 0, .string ⟨#[]⟩, .int .i64 0, .int .i64 0, .slice none 0 0, .slice none 0 0, .bool false] 35 (0, 0))).alloc (Obj.cells #[.pointer none, .slice none 0 0] 82 (0, 0)) = W at *
  have hI : InW (w.heap.size + 1) (w.heap.size + 1) [] W := .inl ⟨Nat.le_refl _, .slice none 0 0, bW, (by simp [World.ownsRow]), by simp [Value.ownBlock]⟩
  have hI' : InW (w.heap.size + 1) (w.heap.size + 1) [] W.drew := hI
  have hl4 : ([] : List Value).length + (verbB 5).size ≤ 1000000000 := by decide +kernel
  have hW1 := bW.lt
  have hW2 : w.heap.size + 1 ≤ W.drew.heap.size := Nat.le_of_lt hW1
  have c0 : W.drew.cell? ⟨w.heap.size, 0, none⟩ = some (.int .i64 5) := bR.cell rfl
  have c0' : W.cell? ⟨w.heap.size, 0, none⟩ = some (.int .i64 5) := bR.cell rfl
  have hT1 : TabB w.heap.size W.drew := hT.on hB0.drew
  clear hT
  go_cut [] (fun wx => AtW (w.heap.size + 1) (w.heap.size + 1) (Lib.byteCells (verbB 5).data.toList) wx ∧ Below (w.heap.size + 1) W.drew wx)
  case first =>
    go_region_with (first
      | (go_at_call 44; refine (verbOf_any 5 (by decide) (by decide) _).mono ?_; rintro e w1 ⟨rfl, rfl⟩)
      | (go_at_call 43; refine (writeString_any (w.heap.size + 1) (w.heap.size + 1) [] _ _ hI' hl4 hW2).mono ?_; rintro e w2 ⟨rfl, h2, hb2, hf2⟩))
    all_goals
      go_wp2
      go_meet
      case rel => exact ⟨h2, hb2⟩
  case rest =>
    obtain ⟨hA, hbA⟩ := hcut
    have f0 := cell_below hbA c0 (Nat.lt_succ_self _)
    have f1 := cell_below hbA (a := ⟨w.heap.size, 1, none⟩) (v := .int .i64 g) (bR.cell rfl) (Nat.lt_succ_self _)
    have f2 := cell_below hbA (a := ⟨w.heap.size, 2, none⟩) (v := .slice none 0 0) (bR.cell rfl) (Nat.lt_succ_self _)
    have f3 := cell_below hbA (a := ⟨w.heap.size, 3, none⟩) (v := .slice none 0 0) (bR.cell rfl) (Nat.lt_succ_self _)
    have hsA : w.heap.size + 1 ≤ wc.heap.size := Nat.le_trans hW2 hbA.size
    have hTA : TabB (w.heap.size + 1) wc := (hT1.up (Nat.le_succ _)).on hbA
    have hnum := number_l (w.heap.size + 1) (w.heap.size + 1) (verbB 5).data.toList 32 32 g wc hg (by decide) (by decide) hA (by decide) hsA hTA
    clear hTA hT1
    go_wp2_with (first
      | (go_at_call 47; refine hnum.mono ?_; rintro e w3 ⟨rfl, h3, hb3, hf3⟩; have g2 := cell_below hb3 f2 (Nat.lt_succ_self _); have g3 := cell_below hb3 f3 (Nat.lt_succ_self _))
      | (go_at_call 48; refine (wPeers_none _ _).mono ?_; rintro e w4 ⟨rfl, rfl⟩)
      | (go_at_call 49; refine (wPlaces_none _ _).mono ?_; rintro e w5 ⟨rfl, rfl⟩)
      | (go_at_call 50; refine (string_at (w.heap.size + 1) (w.heap.size + 1) _ _ h3 (by simp [numT])).mono ?_; rintro e w6 ⟨rfl, hb6⟩))
    refine bodyPost_ret (by simp [results, Tryd.results30, go_sem]) rfl ⟨rfl, (hB0.drew).trans (((hbA.trans hb3).trans hb6).mono (Nat.le_succ _))⟩

theorem text_five (g : Nat) (w : World) (hg : g ≤ 9223372036854775807) (hT : TabB w.heap.size w) : Calls Tryd.prog 16 #[.agg #[.int .i64 5, .int .i64 g, .slice none 0 0, .slice none 0 0, .string ⟨#[]⟩, .int .i64 0, .int .i64 0, .slice none 0 0, .slice none 0 0, .bool false]] w fun e w' => e = .returned (.string ⟨((verbB 5).data.toList ++ numT 32 g).toArray⟩) ∧ Below w.heap.size w w' := by
  have hb0 : Below w.heap.size w (w.alloc (Obj.cells #[.int .i64 5, .int .i64 g, .slice none 0 0, .slice none 0 0, .string ⟨#[]⟩, .int .i64 0, .int .i64 0, .slice none 0 0, .slice none 0 0, .bool false] 35 (0, 0))) := up (Below.refl _ _) _
  have q := Box.new w #[.int .i64 5, .int .i64 g, .slice none 0 0, .slice none 0 0, .string ⟨#[]⟩, .int .i64 0, .int .i64 0, .slice none 0 0, .slice none 0 0, .bool false] 35 rfl
  obtain ⟨x0, x1, x2, x3, x4, x5, x6, x7, x8, x9⟩ := RecBox.cells q
  have kw := write_five g (w.alloc (Obj.cells #[.int .i64 5, .int .i64 g, .slice none 0 0, .slice none 0 0, .string ⟨#[]⟩, .int .i64 0, .int .i64 0, .slice none 0 0, .slice none 0 0, .bool false] 35 (0, 0))) hg ((hT.on hb0).up hb0.size)
  clear hT
  go_enter Tryd.func16, Tryd.ntmps16
  go_wp2_with (go_at_call 30; refine kw.mono ?_; rintro e w1 ⟨rfl, hb1⟩)
  go_ret
  exact ⟨rfl, fin hb1 hb0⟩

set_option maxRecDepth 100000 in
set_option maxHeartbeats 4000000 in
theorem write_six (g : Nat) (w : World) (hg : g ≤ 9223372036854775807) (hT : TabB w.heap.size w) : Calls Tryd.prog 30 #[.agg #[.int .i64 6, .int .i64 g, .slice none 0 0, .slice none 0 0, .string ⟨#[]⟩, .int .i64 0, .int .i64 0, .slice none 0 0, .slice none 0 0, .bool false]] w fun e w' => e = .returned (.string ⟨((verbB 6).data.toList ++ numT 32 g).toArray⟩) ∧ Below w.heap.size w w' := by
  go_enter Tryd.func30, Tryd.ntmps30
  go_upto_region 4 with (first
    | (go_at_call 25; refine (known_all _ _).mono ?_; rintro e w1 ⟨rfl, rfl⟩))
  have hs : (w.alloc (Obj.cells #[.int .i64 6, .int .i64 g, .slice none 0 0, .slice none 0 0, .string ⟨#[]⟩, .int .i64 0, .int .i64 0, .slice none 0 0, .slice none 0 0, .bool false] 35 (0, 0))).heap.size = w.heap.size + 1 := by simp
  have bR : Box ((w.alloc (Obj.cells #[.int .i64 6, .int .i64 g, .slice none 0 0, .slice none 0 0, .string ⟨#[]⟩, .int .i64 0, .int .i64 0, .slice none 0 0, .slice none 0 0, .bool false] 35 (0, 0))).alloc (Obj.cells #[.pointer none, .slice none 0 0] 82 (0, 0))) w.heap.size #[.int .i64 6, .int .i64 g, .slice none 0 0, .slice none 0 0, .string ⟨#[]⟩, .int .i64 0, .int .i64 0, .slice none 0 0, .slice none 0 0, .bool false] 35 := (Box.new w _ _ rfl).up _
  have bW : Box ((w.alloc (Obj.cells #[.int .i64 6, .int .i64 g, .slice none 0 0, .slice none 0 0, .string ⟨#[]⟩, .int .i64 0, .int .i64 0, .slice none 0 0, .slice none 0 0, .bool false] 35 (0, 0))).alloc (Obj.cells #[.pointer none, .slice none 0 0] 82 (0, 0))) (w.heap.size + 1) #[.pointer none, .slice none 0 0] 82 := Box.new _ _ _ hs
  have hB0 : Below w.heap.size w ((w.alloc (Obj.cells #[.int .i64 6, .int .i64 g, .slice none 0 0, .slice none 0 0, .string ⟨#[]⟩, .int .i64 0, .int .i64 0, .slice none 0 0, .slice none 0 0, .bool false] 35 (0, 0))).alloc (Obj.cells #[.pointer none, .slice none 0 0] 82 (0, 0))) := ((Below.refl _ _).alloc (Nat.le_refl _) _).alloc (by omega) _
  generalize (w.alloc (Obj.cells #[.int .i64 6, .int .i64 g, .slice none 0 0, .slice none 0 0, .string ⟨#[]⟩, .int .i64 0, .int .i64 0, .slice none 0 0, .slice none 0 0, .bool false] 35 (0, 0))).alloc (Obj.cells #[.pointer none, .slice none 0 0] 82 (0, 0)) = W at *
  have hI : InW (w.heap.size + 1) (w.heap.size + 1) [] W := .inl ⟨Nat.le_refl _, .slice none 0 0, bW, (by simp [World.ownsRow]), by simp [Value.ownBlock]⟩
  have hI' : InW (w.heap.size + 1) (w.heap.size + 1) [] W.drew := hI
  have hl4 : ([] : List Value).length + (verbB 6).size ≤ 1000000000 := by decide +kernel
  have hW1 := bW.lt
  have hW2 : w.heap.size + 1 ≤ W.drew.heap.size := Nat.le_of_lt hW1
  have c0 : W.drew.cell? ⟨w.heap.size, 0, none⟩ = some (.int .i64 6) := bR.cell rfl
  have c0' : W.cell? ⟨w.heap.size, 0, none⟩ = some (.int .i64 6) := bR.cell rfl
  have hT1 : TabB w.heap.size W.drew := hT.on hB0.drew
  clear hT
  go_cut [] (fun wx => AtW (w.heap.size + 1) (w.heap.size + 1) (Lib.byteCells (verbB 6).data.toList) wx ∧ Below (w.heap.size + 1) W.drew wx)
  case first =>
    go_region_with (first
      | (go_at_call 44; refine (verbOf_any 6 (by decide) (by decide) _).mono ?_; rintro e w1 ⟨rfl, rfl⟩)
      | (go_at_call 43; refine (writeString_any (w.heap.size + 1) (w.heap.size + 1) [] _ _ hI' hl4 hW2).mono ?_; rintro e w2 ⟨rfl, h2, hb2, hf2⟩))
    all_goals
      go_wp2
      go_meet
      case rel => exact ⟨h2, hb2⟩
  case rest =>
    obtain ⟨hA, hbA⟩ := hcut
    have f0 := cell_below hbA c0 (Nat.lt_succ_self _)
    have f1 := cell_below hbA (a := ⟨w.heap.size, 1, none⟩) (v := .int .i64 g) (bR.cell rfl) (Nat.lt_succ_self _)
    have f2 := cell_below hbA (a := ⟨w.heap.size, 2, none⟩) (v := .slice none 0 0) (bR.cell rfl) (Nat.lt_succ_self _)
    have f3 := cell_below hbA (a := ⟨w.heap.size, 3, none⟩) (v := .slice none 0 0) (bR.cell rfl) (Nat.lt_succ_self _)
    have hsA : w.heap.size + 1 ≤ wc.heap.size := Nat.le_trans hW2 hbA.size
    have hTA : TabB (w.heap.size + 1) wc := (hT1.up (Nat.le_succ _)).on hbA
    have hnum := number_l (w.heap.size + 1) (w.heap.size + 1) (verbB 6).data.toList 32 32 g wc hg (by decide) (by decide) hA (by decide) hsA hTA
    clear hTA hT1
    go_wp2_with (first
      | (go_at_call 47; refine hnum.mono ?_; rintro e w3 ⟨rfl, h3, hb3, hf3⟩; have g2 := cell_below hb3 f2 (Nat.lt_succ_self _); have g3 := cell_below hb3 f3 (Nat.lt_succ_self _))
      | (go_at_call 48; refine (wPeers_none _ _).mono ?_; rintro e w4 ⟨rfl, rfl⟩)
      | (go_at_call 49; refine (wPlaces_none _ _).mono ?_; rintro e w5 ⟨rfl, rfl⟩)
      | (go_at_call 50; refine (string_at (w.heap.size + 1) (w.heap.size + 1) _ _ h3 (by simp [numT])).mono ?_; rintro e w6 ⟨rfl, hb6⟩))
    refine bodyPost_ret (by simp [results, Tryd.results30, go_sem]) rfl ⟨rfl, (hB0.drew).trans (((hbA.trans hb3).trans hb6).mono (Nat.le_succ _))⟩

theorem text_six (g : Nat) (w : World) (hg : g ≤ 9223372036854775807) (hT : TabB w.heap.size w) : Calls Tryd.prog 16 #[.agg #[.int .i64 6, .int .i64 g, .slice none 0 0, .slice none 0 0, .string ⟨#[]⟩, .int .i64 0, .int .i64 0, .slice none 0 0, .slice none 0 0, .bool false]] w fun e w' => e = .returned (.string ⟨((verbB 6).data.toList ++ numT 32 g).toArray⟩) ∧ Below w.heap.size w w' := by
  have hb0 : Below w.heap.size w (w.alloc (Obj.cells #[.int .i64 6, .int .i64 g, .slice none 0 0, .slice none 0 0, .string ⟨#[]⟩, .int .i64 0, .int .i64 0, .slice none 0 0, .slice none 0 0, .bool false] 35 (0, 0))) := up (Below.refl _ _) _
  have q := Box.new w #[.int .i64 6, .int .i64 g, .slice none 0 0, .slice none 0 0, .string ⟨#[]⟩, .int .i64 0, .int .i64 0, .slice none 0 0, .slice none 0 0, .bool false] 35 rfl
  obtain ⟨x0, x1, x2, x3, x4, x5, x6, x7, x8, x9⟩ := RecBox.cells q
  have kw := write_six g (w.alloc (Obj.cells #[.int .i64 6, .int .i64 g, .slice none 0 0, .slice none 0 0, .string ⟨#[]⟩, .int .i64 0, .int .i64 0, .slice none 0 0, .slice none 0 0, .bool false] 35 (0, 0))) hg ((hT.on hb0).up hb0.size)
  clear hT
  go_enter Tryd.func16, Tryd.ntmps16
  go_wp2_with (go_at_call 30; refine kw.mono ?_; rintro e w1 ⟨rfl, hb1⟩)
  go_ret
  exact ⟨rfl, fin hb1 hb0⟩

end Go.Proofs.YtmldpihjndafaabDoor
