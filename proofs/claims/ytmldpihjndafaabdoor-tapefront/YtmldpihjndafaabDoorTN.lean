/- The contract of read of package line: a line of one that is gone, of a gang, of one that is prepared. -/
import Derived.Test.YtmldpihjndafaabDoorTM
namespace Go.Proofs.YtmldpihjndafaabDoor
open Go.RowKit
set_option linter.unusedSimpArgs false
set_option linter.unusedVariables false

set_option maxRecDepth 100000 in
set_option maxHeartbeats 4000000 in
theorem read_gone (s : ByteArray) (T : ByteArray × Int × ByteArray) (N : ByteArray × Int × ByteArray) (w : World) (hs : s.size ≤ 1000000) (hT : wordF (-1) (-1) s = T) (hk : kindR T.1 7 1 = 2) (hN : wordF T.2.1 32 T.2.2 = N) (hs1 : T.2.2.size ≤ 1000000) :
    Calls Tryd.prog 35 #[.string s] w fun e w' => e = .returned (.tuple #[.agg #[.int .i64 2, .int .i64 0, .slice none 0 0, .slice none 0 0, .string N.1, .int .i64 0, .int .i64 0, .slice none 0 0, .slice none 0 0, .bool false], .bool (N.2.1 == -2)]) ∧ Below w.heap.size w w' := by
  obtain ⟨nm, n2, s2⟩ := N
  obtain ⟨v, n1, s1⟩ := T
  simp only at hk
  go_enter Tryd.func35, Tryd.ntmps35
  go_upto_region 4 with (first
    | (go_at_call 52
       refine (word_any (w.heap.size + 1) (-1) (-1) s _ _ hs hT (Box.new _ _ _ (by simp))).mono ?_
       rintro e w1 ⟨rfl, hL1, hg1⟩)
    | (go_at_call 51; refine (kindOf_any _ _).mono ?_; rw [hk]; rintro e w1 ⟨rfl, rfl⟩))
  have hA1 : Box w1 w.heap.size #[.int .i64 0, .int .i64 0, .slice none 0 0, .slice none 0 0, .string ⟨#[]⟩, .int .i64 0, .int .i64 0, .slice none 0 0, .slice none 0 0, .bool false] 35 := ((Box.new w _ _ rfl).up _).grown hg1 (by simp)
  have hb1 : Below w.heap.size w w1 := (up (up (Below.refl w.heap.size w) _) _).grown hg1 (by simp; omega) (fun j hj => by cases hj; omega)
  have hlt := hL1.lt
  have hA := hA1.up (.cells #[.int .i64 2, .int .i64 0, .slice none 0 0, .slice none 0 0, .string ⟨#[]⟩, .int .i64 0, .int .i64 0, .slice none 0 0, .slice none 0 0, .bool false] 35)
  have hL := hL1.up (.cells #[.int .i64 2, .int .i64 0, .slice none 0 0, .slice none 0 0, .string ⟨#[]⟩, .int .i64 0, .int .i64 0, .slice none 0 0, .slice none 0 0, .bool false] 35)
  have hR : Box (w1.alloc (.cells #[.int .i64 2, .int .i64 0, .slice none 0 0, .slice none 0 0, .string ⟨#[]⟩, .int .i64 0, .int .i64 0, .slice none 0 0, .slice none 0 0, .bool false] 35)) w1.heap.size #[.int .i64 2, .int .i64 0, .slice none 0 0, .slice none 0 0, .string ⟨#[]⟩, .int .i64 0, .int .i64 0, .slice none 0 0, .slice none 0 0, .bool false] 35 := Box.new _ _ _ rfl
  have hb := up hb1 (.cells #[.int .i64 2, .int .i64 0, .slice none 0 0, .slice none 0 0, .string ⟨#[]⟩, .int .i64 0, .int .i64 0, .slice none 0 0, .slice none 0 0, .bool false] 35)
  generalize w1.alloc (.cells #[.int .i64 2, .int .i64 0, .slice none 0 0, .slice none 0 0, .string ⟨#[]⟩, .int .i64 0, .int .i64 0, .slice none 0 0, .slice none 0 0, .bool false] 35) = W at *
  generalize hRn : w1.heap.size = R at *
  obtain ⟨L, hLn⟩ : ∃ L, w.heap.size + 1 = L := ⟨_, rfl⟩
  rw [hLn] at hL hlt ⊢
  clear hL1 hg1 hA1 hb1 hRn
  have hAL : w.heap.size < L := by omega
  try dsimp only at hN
  try dsimp only at hs1
  obtain ⟨x0, x1, x2, x3, x4, x5, x6, x7, x8, x9⟩ := RecBox.cells hR
  go_upto_region 10 with (first
    | (go_at_call 25; refine (known_all _ _).mono ?_; rintro e W ⟨rfl, rfl⟩)
    | (go_at_call 54
       refine (rname_any L n1 32 s1 _ _ hs1 hN hL).mono ?_
       rintro e W3 ⟨rfl, hL3, hg3⟩
       have hR3 := hR.grown hg3 (by simp; omega)
       have hA3 := hA.grown hg3 (by simp; omega)
       have hb3 : Below w.heap.size w W3 := hb.grown hg3 hb.size (fun j hj => by cases hj; omega)
       clear x0 x1 x2 x3 x4 x5 x6 x7 x8 x9
       obtain ⟨x0, x1, x2, x3, x4, x5, x6, x7, x8, x9⟩ := RecBox.cells hR3
       have fr4 := hR3.frozen 4
       have hR2 : RecBox (W3.setCell ⟨R, 4, none⟩ (.string nm)) R (.int .i64 2) (.int .i64 0) (.slice none 0 0) (.slice none 0 0) (.string nm) (.int .i64 0) (.int .i64 0) (.slice none 0 0) (.slice none 0 0) (.bool false) := hR3.set 4 _
       have hL2 := hL3.other (b := R) (by omega) 4 (.string nm)
       have hA2 := hA3.other (b := R) (by omega) 4 (.string nm)
       have hb2 := hb3.setCell (p := ⟨R, 4, none⟩) (by simp; omega) (.string nm)))
  generalize W3.setCell ⟨R, 4, none⟩ (.string nm) = W2 at *
  have hR0 : RdR w.heap.size L R _ _ _ _ _ _ _ _ _ _ _ _ w W2 W2.drew := ⟨hR2, hL2, ⟨_, _, _, _, _, _, _, _, _, _, hA2⟩, hb2.drew, ⟨hAL, hlt⟩, grown_drew (World.grownBy.refl _ _)⟩
  clear hA hL hR hb hA2 hL2 hR2 hb2 hA3 hL3 hR3 hb3 hg3 fr4 x0 x1 x2 x3 x4 x5 x6 x7 x8 x9
  refine wp_region_relyZ (fun w1 => RdR w.heap.size L R (.int .i64 2) (.int .i64 0) (.slice none 0 0) (.slice none 0 0) (.string nm) (.int .i64 0) (.int .i64 0) (.slice none 0 0) (.slice none 0 0) (.bool false) (n2) (s2) w W2 w1) (fun w1 w2 => RdS w.heap.size (.int .i64 2) (.int .i64 0) (.slice none 0 0) (.slice none 0 0) (.string nm) (.int .i64 0) (.int .i64 0) (.slice none 0 0) (.slice none 0 0) (.bool false) w1 w2) (rdF w.heap.size L (.int .i64 2) (.int .i64 0) (.slice none 0 0) (.slice none 0 0) (.string nm) (.int .i64 0) (.int .i64 0) (.slice none 0 0) (.slice none 0 0) (.bool false) (n2)) (by kernel_rfl) (by kernel_rfl) hR0 ?keep ?step ?rest
  case keep =>
    intro i z w1 w2 hS hF
    unfold rdF at *
    split at hF <;> first | exact hF | exact hS.s0 hF
  case step =>
    intro i o ho b w1 hR hold hdep
    have o2 : sl b 2 = .pointer (some ⟨w.heap.size, 0, none⟩) := hold 2 (by kernel_rfl)
    have o4 : sl b 4 = .pointer (some ⟨L, 0, none⟩) := hold 4 (by kernel_rfl)
    have o5 : sl b 5 = .pointer (some ⟨R, 0, none⟩) := hold 5 (by kernel_rfl)
    obtain ⟨x0, x1, x2, x3, x4, x5, x6, x7, x8, x9⟩ := RecBox.cells hR.br
    obtain ⟨y0, y1⟩ := hR.bl.cells2
    have hS := RdS.refl w.heap.size (.int .i64 2) (.int .i64 0) (.slice none 0 0) (.slice none 0 0) (.string nm) (.int .i64 0) (.int .i64 0) (.slice none 0 0) (.slice none 0 0) (.bool false) w1
    rcases i with _ | _ | _ | _ | _ | _ | _ | _ | i
    all_goals try cases ho
    · exact okZ_val rfl rfl (want_none rfl b) (by simp [go_sem, o5, x0, x1, x2, x3, x4, x5, x6, x7, x8, x9]) hR hS rfl
    · exact okZ_val rfl rfl (want_none rfl b) (by simp [go_sem, o4]) hR hS rfl
    · have f39 : sl b 39 = .pointer (some ⟨L, 0, none⟩) := hdep 1 _ rfl (by kernel_rfl)
      exact okZ_val rfl rfl (want_none rfl b) (by simp [go_sem, f39]) hR hS rfl
    · have f40 : sl b 40 = .pointer (some ⟨L, 0, none⟩) := hdep 2 _ rfl (by kernel_rfl)
      exact okZ_val rfl rfl (want_none rfl b) (by simp [go_sem, f40]) hR hS rfl
    · have f41 : sl b 41 = .pointer (some ⟨L, 0, none⟩) := hdep 3 _ rfl (by kernel_rfl)
      exact okZ_val rfl rfl (want_none rfl b) (by simp [go_sem, f41, y0]) hR hS rfl
    · have f42 : sl b 42 = .int .i32 (n2) := hdep 4 _ rfl (by kernel_rfl)
      exact okZ_val rfl rfl (want_none rfl b) (by simp [go_sem, f42]) hR hS rfl
    · have f38 : sl b 38 = .agg #[.int .i64 2, .int .i64 0, .slice none 0 0, .slice none 0 0, .string nm, .int .i64 0, .int .i64 0, .slice none 0 0, .slice none 0 0, .bool false] := hdep 0 _ rfl (by kernel_rfl)
      obtain ⟨d0, d1, d2, d3, d4, d5, d6, d7, d8, d9, hr⟩ := hR.ba
      refine okZ_store rfl rfl (want_none rfl b) (run_store_rec (.tmp 2) (.tmp 38) rfl (by simpa [go_sem] using o2) (by simpa [go_sem] using f38) hr (by kernel_rfl)) ?_ ?_ ?_
      · exact ⟨Box.otherAll (by have := hR.ne; omega) _ _ hR.br, Box.otherAll (by have := hR.ne; omega) _ _ hR.bl, ⟨_, _, _, _, _, _, _, _, _, _, RecBox.setAll hr⟩, below_setAll (Nat.le_refl _) _ _ hR.bel, hR.ne, grown_setAll _ _ hR.gr⟩
      · exact ⟨fun h => RecBox.setAll h⟩
      · exact RecBox.setAll hr
    · have f43 : sl b 43 = .bool ((n2 : Int) == -2) := hdep 5 _ rfl (by kernel_rfl)
      exact okZ_val rfl rfl (want_none rfl b) (by simp [go_sem, f43]) hR hS rfl
  case rest =>
    intro b w1 hR hsz hdf hold hF
    have f2 : sl b 2 = .pointer (some ⟨w.heap.size, 0, none⟩) := hold 2 (by kernel_rfl)
    have f3 : sl b 3 = .bool ((n2 : Int) == -2) := hF 7 _ rfl
    have t0 : Box w1 w.heap.size #[.int .i64 2, .int .i64 0, .slice none 0 0, .slice none 0 0, .string nm, .int .i64 0, .int .i64 0, .slice none 0 0, .slice none 0 0, .bool false] 35 := hF 6 _ rfl
    have hB : b = _ := act_list b (show b.tmps.size = 44 from hsz) hdf
    rw [hB]
    simp only [List.range, List.range.loop, List.map_cons, List.map_nil, f2, f3]
    generalize sl b 0 = v0, sl b 1 = v1, sl b 4 = v4, sl b 5 = v5, sl b 6 = v6, sl b 7 = v7, sl b 8 = v8, sl b 9 = v9, sl b 10 = v10, sl b 11 = v11, sl b 12 = v12, sl b 13 = v13, sl b 14 = v14, sl b 15 = v15, sl b 16 = v16, sl b 17 = v17, sl b 18 = v18, sl b 19 = v19, sl b 20 = v20, sl b 21 = v21, sl b 22 = v22, sl b 23 = v23, sl b 24 = v24, sl b 25 = v25, sl b 26 = v26, sl b 27 = v27, sl b 28 = v28, sl b 29 = v29, sl b 30 = v30, sl b 31 = v31, sl b 32 = v32, sl b 33 = v33, sl b 34 = v34, sl b 35 = v35, sl b 36 = v36, sl b 37 = v37, sl b 38 = v38, sl b 39 = v39, sl b 40 = v40, sl b 41 = v41, sl b 42 = v42, sl b 43 = v43
    obtain ⟨x0, x1, x2, x3, x4, x5, x6, x7, x8, x9⟩ := RecBox.cells t0
    have hbel := hR.bel
    have hgr := hR.gr
    clear hB hold hsz hdf hF f2 f3 hR
    go_wp2
    exact bodyPost_ret (by simp [results, Tryd.results35, go_sem, x0, x1, x2, x3, x4, x5, x6, x7, x8, x9]) rfl ⟨rfl, hbel⟩

set_option maxRecDepth 100000 in
set_option maxHeartbeats 4000000 in
theorem read_seven (s : ByteArray) (T : ByteArray × Int × ByteArray) (N : Nat × Int × ByteArray) (S : List Nat × Int × ByteArray) (w : World) (hs : s.size ≤ 1000000) (hT : wordF (-1) (-1) s = T) (hk : kindR T.1 7 1 = 7) (hN : numF T.2.1 32 T.2.2 = N) (hP : peersF N.2.1 N.2.2 = S) (hs1 : T.2.2.size ≤ 1000000) :
    Calls Tryd.prog 35 #[.string s] w fun e w' => ∃ pv, e = .returned (.tuple #[.agg #[.int .i64 7, .int .i64 N.1, pv, .slice none 0 0, .string ⟨#[]⟩, .int .i64 0, .int .i64 0, .slice none 0 0, .slice none 0 0, .bool false], .bool (S.2.1 == -2)]) ∧ w'.ownsRow (w.heap.size + 1) 3 1 pv S.1.length (S.1.map natV) ∧ Below w.heap.size w w' := by
  obtain ⟨gn, n2, s2⟩ := N
  obtain ⟨ps, n3, s3⟩ := S
  obtain ⟨v, n1, s1⟩ := T
  simp only at hk
  go_enter Tryd.func35, Tryd.ntmps35
  go_upto_region 4 with (first
    | (go_at_call 52
       refine (word_any (w.heap.size + 1) (-1) (-1) s _ _ hs hT (Box.new _ _ _ (by simp))).mono ?_
       rintro e w1 ⟨rfl, hL1, hg1⟩)
    | (go_at_call 51; refine (kindOf_any _ _).mono ?_; rw [hk]; rintro e w1 ⟨rfl, rfl⟩))
  have hA1 : Box w1 w.heap.size #[.int .i64 0, .int .i64 0, .slice none 0 0, .slice none 0 0, .string ⟨#[]⟩, .int .i64 0, .int .i64 0, .slice none 0 0, .slice none 0 0, .bool false] 35 := ((Box.new w _ _ rfl).up _).grown hg1 (by simp)
  have hb1 : Below w.heap.size w w1 := (up (up (Below.refl w.heap.size w) _) _).grown hg1 (by simp; omega) (fun j hj => by cases hj; omega)
  have hlt := hL1.lt
  have hA := hA1.up (.cells #[.int .i64 7, .int .i64 0, .slice none 0 0, .slice none 0 0, .string ⟨#[]⟩, .int .i64 0, .int .i64 0, .slice none 0 0, .slice none 0 0, .bool false] 35)
  have hL := hL1.up (.cells #[.int .i64 7, .int .i64 0, .slice none 0 0, .slice none 0 0, .string ⟨#[]⟩, .int .i64 0, .int .i64 0, .slice none 0 0, .slice none 0 0, .bool false] 35)
  have hR : Box (w1.alloc (.cells #[.int .i64 7, .int .i64 0, .slice none 0 0, .slice none 0 0, .string ⟨#[]⟩, .int .i64 0, .int .i64 0, .slice none 0 0, .slice none 0 0, .bool false] 35)) w1.heap.size #[.int .i64 7, .int .i64 0, .slice none 0 0, .slice none 0 0, .string ⟨#[]⟩, .int .i64 0, .int .i64 0, .slice none 0 0, .slice none 0 0, .bool false] 35 := Box.new _ _ _ rfl
  have hb := up hb1 (.cells #[.int .i64 7, .int .i64 0, .slice none 0 0, .slice none 0 0, .string ⟨#[]⟩, .int .i64 0, .int .i64 0, .slice none 0 0, .slice none 0 0, .bool false] 35)
  generalize w1.alloc (.cells #[.int .i64 7, .int .i64 0, .slice none 0 0, .slice none 0 0, .string ⟨#[]⟩, .int .i64 0, .int .i64 0, .slice none 0 0, .slice none 0 0, .bool false] 35) = W at *
  generalize hRn : w1.heap.size = R at *
  obtain ⟨L, hLn⟩ : ∃ L, w.heap.size + 1 = L := ⟨_, rfl⟩
  rw [hLn] at hL hlt ⊢
  clear hL1 hg1 hA1 hb1 hRn
  have hAL : w.heap.size < L := by omega
  try dsimp only at hN
  try dsimp only at hs1
  obtain ⟨x0, x1, x2, x3, x4, x5, x6, x7, x8, x9⟩ := RecBox.cells hR
  have hRW := hR.lt
  go_upto_region 10 with (first
    | (go_at_call 25; refine (known_all _ _).mono ?_; rintro e W ⟨rfl, rfl⟩)
    | (go_at_call 55
       refine (gang_seven L R L n1 s1 _ _ _ hs1 hN hP (by omega) (Nat.le_refl _) (by omega) hL hR).mono ?_
       rintro e W2 ⟨rfl, pv, hR2, ho1, hL2, hg2⟩
       have hA2 := hA.under hg2 hAL
       have hb2 : Below w.heap.size w W2 := hb.trans (hg2.mono (by omega))))
  have hbase : w.heap.size + 1 ≤ W.heap.size := by omega
  obtain ⟨a1, c1, rfl⟩ := slice_of_own ho1
  have hR0 : RdR w.heap.size L R _ _ _ _ _ _ _ _ _ _ _ _ w W2 W2.drew := ⟨hR2, hL2, ⟨_, _, _, _, _, _, _, _, _, _, hA2⟩, hb2.drew, ⟨hAL, hlt⟩, grown_drew (World.grownBy.refl _ _)⟩
  clear hA hL hR hb hA2 hL2 hR2 hb2 x0 x1 x2 x3 x4 x5 x6 x7 x8 x9
  try dsimp only at ho1
  generalize hk1 : ps.length = k1 at *
  refine wp_region_relyZ (fun w1 => RdR w.heap.size L R (.int .i64 7) (.int .i64 gn) (.slice a1 k1 c1) (.slice none 0 0) (.string ⟨#[]⟩) (.int .i64 0) (.int .i64 0) (.slice none 0 0) (.slice none 0 0) (.bool false) (n3) (s3) w W2 w1) (fun w1 w2 => RdS w.heap.size (.int .i64 7) (.int .i64 gn) (.slice a1 k1 c1) (.slice none 0 0) (.string ⟨#[]⟩) (.int .i64 0) (.int .i64 0) (.slice none 0 0) (.slice none 0 0) (.bool false) w1 w2) (rdF w.heap.size L (.int .i64 7) (.int .i64 gn) (.slice a1 k1 c1) (.slice none 0 0) (.string ⟨#[]⟩) (.int .i64 0) (.int .i64 0) (.slice none 0 0) (.slice none 0 0) (.bool false) (n3)) (by kernel_rfl) (by kernel_rfl) hR0 ?keep ?step ?rest
  case keep =>
    intro i z w1 w2 hS hF
    unfold rdF at *
    split at hF <;> first | exact hF | exact hS.s0 hF
  case step =>
    intro i o ho b w1 hR hold hdep
    have o2 : sl b 2 = .pointer (some ⟨w.heap.size, 0, none⟩) := hold 2 (by kernel_rfl)
    have o4 : sl b 4 = .pointer (some ⟨L, 0, none⟩) := hold 4 (by kernel_rfl)
    have o5 : sl b 5 = .pointer (some ⟨R, 0, none⟩) := hold 5 (by kernel_rfl)
    obtain ⟨x0, x1, x2, x3, x4, x5, x6, x7, x8, x9⟩ := RecBox.cells hR.br
    obtain ⟨y0, y1⟩ := hR.bl.cells2
    have hS := RdS.refl w.heap.size (.int .i64 7) (.int .i64 gn) (.slice a1 k1 c1) (.slice none 0 0) (.string ⟨#[]⟩) (.int .i64 0) (.int .i64 0) (.slice none 0 0) (.slice none 0 0) (.bool false) w1
    rcases i with _ | _ | _ | _ | _ | _ | _ | _ | i
    all_goals try cases ho
    · exact okZ_val rfl rfl (want_none rfl b) (by simp [go_sem, o5, x0, x1, x2, x3, x4, x5, x6, x7, x8, x9]) hR hS rfl
    · exact okZ_val rfl rfl (want_none rfl b) (by simp [go_sem, o4]) hR hS rfl
    · have f39 : sl b 39 = .pointer (some ⟨L, 0, none⟩) := hdep 1 _ rfl (by kernel_rfl)
      exact okZ_val rfl rfl (want_none rfl b) (by simp [go_sem, f39]) hR hS rfl
    · have f40 : sl b 40 = .pointer (some ⟨L, 0, none⟩) := hdep 2 _ rfl (by kernel_rfl)
      exact okZ_val rfl rfl (want_none rfl b) (by simp [go_sem, f40]) hR hS rfl
    · have f41 : sl b 41 = .pointer (some ⟨L, 0, none⟩) := hdep 3 _ rfl (by kernel_rfl)
      exact okZ_val rfl rfl (want_none rfl b) (by simp [go_sem, f41, y0]) hR hS rfl
    · have f42 : sl b 42 = .int .i32 (n3) := hdep 4 _ rfl (by kernel_rfl)
      exact okZ_val rfl rfl (want_none rfl b) (by simp [go_sem, f42]) hR hS rfl
    · have f38 : sl b 38 = .agg #[.int .i64 7, .int .i64 gn, .slice a1 k1 c1, .slice none 0 0, .string ⟨#[]⟩, .int .i64 0, .int .i64 0, .slice none 0 0, .slice none 0 0, .bool false] := hdep 0 _ rfl (by kernel_rfl)
      obtain ⟨d0, d1, d2, d3, d4, d5, d6, d7, d8, d9, hr⟩ := hR.ba
      refine okZ_store rfl rfl (want_none rfl b) (run_store_rec (.tmp 2) (.tmp 38) rfl (by simpa [go_sem] using o2) (by simpa [go_sem] using f38) hr (by kernel_rfl)) ?_ ?_ ?_
      · exact ⟨Box.otherAll (by have := hR.ne; omega) _ _ hR.br, Box.otherAll (by have := hR.ne; omega) _ _ hR.bl, ⟨_, _, _, _, _, _, _, _, _, _, RecBox.setAll hr⟩, below_setAll (Nat.le_refl _) _ _ hR.bel, hR.ne, grown_setAll _ _ hR.gr⟩
      · exact ⟨fun h => RecBox.setAll h⟩
      · exact RecBox.setAll hr
    · have f43 : sl b 43 = .bool ((n3 : Int) == -2) := hdep 5 _ rfl (by kernel_rfl)
      exact okZ_val rfl rfl (want_none rfl b) (by simp [go_sem, f43]) hR hS rfl
  case rest =>
    intro b w1 hR hsz hdf hold hF
    have f2 : sl b 2 = .pointer (some ⟨w.heap.size, 0, none⟩) := hold 2 (by kernel_rfl)
    have f3 : sl b 3 = .bool ((n3 : Int) == -2) := hF 7 _ rfl
    have t0 : Box w1 w.heap.size #[.int .i64 7, .int .i64 gn, .slice a1 k1 c1, .slice none 0 0, .string ⟨#[]⟩, .int .i64 0, .int .i64 0, .slice none 0 0, .slice none 0 0, .bool false] 35 := hF 6 _ rfl
    have hB : b = _ := act_list b (show b.tmps.size = 44 from hsz) hdf
    rw [hB]
    simp only [List.range, List.range.loop, List.map_cons, List.map_nil, f2, f3]
    generalize sl b 0 = v0, sl b 1 = v1, sl b 4 = v4, sl b 5 = v5, sl b 6 = v6, sl b 7 = v7, sl b 8 = v8, sl b 9 = v9, sl b 10 = v10, sl b 11 = v11, sl b 12 = v12, sl b 13 = v13, sl b 14 = v14, sl b 15 = v15, sl b 16 = v16, sl b 17 = v17, sl b 18 = v18, sl b 19 = v19, sl b 20 = v20, sl b 21 = v21, sl b 22 = v22, sl b 23 = v23, sl b 24 = v24, sl b 25 = v25, sl b 26 = v26, sl b 27 = v27, sl b 28 = v28, sl b 29 = v29, sl b 30 = v30, sl b 31 = v31, sl b 32 = v32, sl b 33 = v33, sl b 34 = v34, sl b 35 = v35, sl b 36 = v36, sl b 37 = v37, sl b 38 = v38, sl b 39 = v39, sl b 40 = v40, sl b 41 = v41, sl b 42 = v42, sl b 43 = v43
    obtain ⟨x0, x1, x2, x3, x4, x5, x6, x7, x8, x9⟩ := RecBox.cells t0
    have hbel := hR.bel
    have hgr := hR.gr
    clear hB hold hsz hdf hF f2 f3 hR
    go_wp2
    exact bodyPost_ret (by simp [results, Tryd.results35, go_sem, x0, x1, x2, x3, x4, x5, x6, x7, x8, x9]) rfl ⟨.slice a1 k1 c1, rfl, by first | (rw [hk1]; exact own_grown (own_low ho1 hbase) hgr (fun g hg => by simp; omega)) | exact own_grown (own_low ho1 hbase) hgr (fun g hg => by simp; omega), hbel⟩

set_option maxRecDepth 100000 in
set_option maxHeartbeats 4000000 in
theorem read_three (s : ByteArray) (T : ByteArray × Int × ByteArray) (N : Nat × Int × ByteArray) (S : List Nat × Int × ByteArray) (V : List PlaceB × Int × ByteArray) (w : World) (hs : s.size ≤ 1000000) (hT : wordF (-1) (-1) s = T) (hk : kindR T.1 7 1 = 3) (hN : numF T.2.1 32 T.2.2 = N) (hP : peersF N.2.1 N.2.2 = S) (hQ : placesF (S.2.2.size + 2) S.2.1 S.2.2 = V) (hs1 : T.2.2.size ≤ 1000000) :
    Calls Tryd.prog 35 #[.string s] w fun e w' => ∃ pv qv, e = .returned (.tuple #[.agg #[.int .i64 3, .int .i64 N.1, pv, qv, .string ⟨#[]⟩, .int .i64 0, .int .i64 0, .slice none 0 0, .slice none 0 0, .bool false], .bool (V.2.1 == -2)]) ∧ w'.ownsRow (w.heap.size + 1) 3 1 pv S.1.length (S.1.map natV) ∧ w'.ownsRow (w.heap.size + 1) 56 5 qv V.1.length (V.1.flatMap placeCells) ∧ Below w.heap.size w w' := by
  obtain ⟨gn, n2, s2⟩ := N
  obtain ⟨ps, n3, s3⟩ := S
  obtain ⟨qs, n4, s4⟩ := V
  obtain ⟨v, n1, s1⟩ := T
  simp only at hk
  go_enter Tryd.func35, Tryd.ntmps35
  go_upto_region 4 with (first
    | (go_at_call 52
       refine (word_any (w.heap.size + 1) (-1) (-1) s _ _ hs hT (Box.new _ _ _ (by simp))).mono ?_
       rintro e w1 ⟨rfl, hL1, hg1⟩)
    | (go_at_call 51; refine (kindOf_any _ _).mono ?_; rw [hk]; rintro e w1 ⟨rfl, rfl⟩))
  have hA1 : Box w1 w.heap.size #[.int .i64 0, .int .i64 0, .slice none 0 0, .slice none 0 0, .string ⟨#[]⟩, .int .i64 0, .int .i64 0, .slice none 0 0, .slice none 0 0, .bool false] 35 := ((Box.new w _ _ rfl).up _).grown hg1 (by simp)
  have hb1 : Below w.heap.size w w1 := (up (up (Below.refl w.heap.size w) _) _).grown hg1 (by simp; omega) (fun j hj => by cases hj; omega)
  have hlt := hL1.lt
  have hA := hA1.up (.cells #[.int .i64 3, .int .i64 0, .slice none 0 0, .slice none 0 0, .string ⟨#[]⟩, .int .i64 0, .int .i64 0, .slice none 0 0, .slice none 0 0, .bool false] 35)
  have hL := hL1.up (.cells #[.int .i64 3, .int .i64 0, .slice none 0 0, .slice none 0 0, .string ⟨#[]⟩, .int .i64 0, .int .i64 0, .slice none 0 0, .slice none 0 0, .bool false] 35)
  have hR : Box (w1.alloc (.cells #[.int .i64 3, .int .i64 0, .slice none 0 0, .slice none 0 0, .string ⟨#[]⟩, .int .i64 0, .int .i64 0, .slice none 0 0, .slice none 0 0, .bool false] 35)) w1.heap.size #[.int .i64 3, .int .i64 0, .slice none 0 0, .slice none 0 0, .string ⟨#[]⟩, .int .i64 0, .int .i64 0, .slice none 0 0, .slice none 0 0, .bool false] 35 := Box.new _ _ _ rfl
  have hb := up hb1 (.cells #[.int .i64 3, .int .i64 0, .slice none 0 0, .slice none 0 0, .string ⟨#[]⟩, .int .i64 0, .int .i64 0, .slice none 0 0, .slice none 0 0, .bool false] 35)
  generalize w1.alloc (.cells #[.int .i64 3, .int .i64 0, .slice none 0 0, .slice none 0 0, .string ⟨#[]⟩, .int .i64 0, .int .i64 0, .slice none 0 0, .slice none 0 0, .bool false] 35) = W at *
  generalize hRn : w1.heap.size = R at *
  obtain ⟨L, hLn⟩ : ∃ L, w.heap.size + 1 = L := ⟨_, rfl⟩
  rw [hLn] at hL hlt ⊢
  clear hL1 hg1 hA1 hb1 hRn
  have hAL : w.heap.size < L := by omega
  try dsimp only at hN
  try dsimp only at hs1
  obtain ⟨x0, x1, x2, x3, x4, x5, x6, x7, x8, x9⟩ := RecBox.cells hR
  have hRW := hR.lt
  go_upto_region 10 with (first
    | (go_at_call 25; refine (known_all _ _).mono ?_; rintro e W ⟨rfl, rfl⟩)
    | (go_at_call 55
       refine (gang_three L R L n1 s1 _ _ _ _ hs1 hN hP hQ (by omega) (Nat.le_refl _) (by omega) hL hR).mono ?_
       rintro e W2 ⟨rfl, pv, qv, hR2, ho1, ho2, hL2, hg2⟩
       have hA2 := hA.under hg2 hAL
       have hb2 : Below w.heap.size w W2 := hb.trans (hg2.mono (by omega))))
  have hbase : w.heap.size + 1 ≤ W.heap.size := by omega
  obtain ⟨a1, c1, rfl⟩ := slice_of_own ho1
  obtain ⟨a2, c2, rfl⟩ := slice_of_own ho2
  have hR0 : RdR w.heap.size L R _ _ _ _ _ _ _ _ _ _ _ _ w W2 W2.drew := ⟨hR2, hL2, ⟨_, _, _, _, _, _, _, _, _, _, hA2⟩, hb2.drew, ⟨hAL, hlt⟩, grown_drew (World.grownBy.refl _ _)⟩
  clear hA hL hR hb hA2 hL2 hR2 hb2 x0 x1 x2 x3 x4 x5 x6 x7 x8 x9
  try dsimp only at ho1
  try dsimp only at ho2
  generalize hk1 : ps.length = k1 at *
  generalize hk2 : qs.length = k2 at *
  refine wp_region_relyZ (fun w1 => RdR w.heap.size L R (.int .i64 3) (.int .i64 gn) (.slice a1 k1 c1) (.slice a2 k2 c2) (.string ⟨#[]⟩) (.int .i64 0) (.int .i64 0) (.slice none 0 0) (.slice none 0 0) (.bool false) (n4) (s4) w W2 w1) (fun w1 w2 => RdS w.heap.size (.int .i64 3) (.int .i64 gn) (.slice a1 k1 c1) (.slice a2 k2 c2) (.string ⟨#[]⟩) (.int .i64 0) (.int .i64 0) (.slice none 0 0) (.slice none 0 0) (.bool false) w1 w2) (rdF w.heap.size L (.int .i64 3) (.int .i64 gn) (.slice a1 k1 c1) (.slice a2 k2 c2) (.string ⟨#[]⟩) (.int .i64 0) (.int .i64 0) (.slice none 0 0) (.slice none 0 0) (.bool false) (n4)) (by kernel_rfl) (by kernel_rfl) hR0 ?keep ?step ?rest
  case keep =>
    intro i z w1 w2 hS hF
    unfold rdF at *
    split at hF <;> first | exact hF | exact hS.s0 hF
  case step =>
    intro i o ho b w1 hR hold hdep
    have o2 : sl b 2 = .pointer (some ⟨w.heap.size, 0, none⟩) := hold 2 (by kernel_rfl)
    have o4 : sl b 4 = .pointer (some ⟨L, 0, none⟩) := hold 4 (by kernel_rfl)
    have o5 : sl b 5 = .pointer (some ⟨R, 0, none⟩) := hold 5 (by kernel_rfl)
    obtain ⟨x0, x1, x2, x3, x4, x5, x6, x7, x8, x9⟩ := RecBox.cells hR.br
    obtain ⟨y0, y1⟩ := hR.bl.cells2
    have hS := RdS.refl w.heap.size (.int .i64 3) (.int .i64 gn) (.slice a1 k1 c1) (.slice a2 k2 c2) (.string ⟨#[]⟩) (.int .i64 0) (.int .i64 0) (.slice none 0 0) (.slice none 0 0) (.bool false) w1
    rcases i with _ | _ | _ | _ | _ | _ | _ | _ | i
    all_goals try cases ho
    · exact okZ_val rfl rfl (want_none rfl b) (by simp [go_sem, o5, x0, x1, x2, x3, x4, x5, x6, x7, x8, x9]) hR hS rfl
    · exact okZ_val rfl rfl (want_none rfl b) (by simp [go_sem, o4]) hR hS rfl
    · have f39 : sl b 39 = .pointer (some ⟨L, 0, none⟩) := hdep 1 _ rfl (by kernel_rfl)
      exact okZ_val rfl rfl (want_none rfl b) (by simp [go_sem, f39]) hR hS rfl
    · have f40 : sl b 40 = .pointer (some ⟨L, 0, none⟩) := hdep 2 _ rfl (by kernel_rfl)
      exact okZ_val rfl rfl (want_none rfl b) (by simp [go_sem, f40]) hR hS rfl
    · have f41 : sl b 41 = .pointer (some ⟨L, 0, none⟩) := hdep 3 _ rfl (by kernel_rfl)
      exact okZ_val rfl rfl (want_none rfl b) (by simp [go_sem, f41, y0]) hR hS rfl
    · have f42 : sl b 42 = .int .i32 (n4) := hdep 4 _ rfl (by kernel_rfl)
      exact okZ_val rfl rfl (want_none rfl b) (by simp [go_sem, f42]) hR hS rfl
    · have f38 : sl b 38 = .agg #[.int .i64 3, .int .i64 gn, .slice a1 k1 c1, .slice a2 k2 c2, .string ⟨#[]⟩, .int .i64 0, .int .i64 0, .slice none 0 0, .slice none 0 0, .bool false] := hdep 0 _ rfl (by kernel_rfl)
      obtain ⟨d0, d1, d2, d3, d4, d5, d6, d7, d8, d9, hr⟩ := hR.ba
      refine okZ_store rfl rfl (want_none rfl b) (run_store_rec (.tmp 2) (.tmp 38) rfl (by simpa [go_sem] using o2) (by simpa [go_sem] using f38) hr (by kernel_rfl)) ?_ ?_ ?_
      · exact ⟨Box.otherAll (by have := hR.ne; omega) _ _ hR.br, Box.otherAll (by have := hR.ne; omega) _ _ hR.bl, ⟨_, _, _, _, _, _, _, _, _, _, RecBox.setAll hr⟩, below_setAll (Nat.le_refl _) _ _ hR.bel, hR.ne, grown_setAll _ _ hR.gr⟩
      · exact ⟨fun h => RecBox.setAll h⟩
      · exact RecBox.setAll hr
    · have f43 : sl b 43 = .bool ((n4 : Int) == -2) := hdep 5 _ rfl (by kernel_rfl)
      exact okZ_val rfl rfl (want_none rfl b) (by simp [go_sem, f43]) hR hS rfl
  case rest =>
    intro b w1 hR hsz hdf hold hF
    have f2 : sl b 2 = .pointer (some ⟨w.heap.size, 0, none⟩) := hold 2 (by kernel_rfl)
    have f3 : sl b 3 = .bool ((n4 : Int) == -2) := hF 7 _ rfl
    have t0 : Box w1 w.heap.size #[.int .i64 3, .int .i64 gn, .slice a1 k1 c1, .slice a2 k2 c2, .string ⟨#[]⟩, .int .i64 0, .int .i64 0, .slice none 0 0, .slice none 0 0, .bool false] 35 := hF 6 _ rfl
    have hB : b = _ := act_list b (show b.tmps.size = 44 from hsz) hdf
    rw [hB]
    simp only [List.range, List.range.loop, List.map_cons, List.map_nil, f2, f3]
    generalize sl b 0 = v0, sl b 1 = v1, sl b 4 = v4, sl b 5 = v5, sl b 6 = v6, sl b 7 = v7, sl b 8 = v8, sl b 9 = v9, sl b 10 = v10, sl b 11 = v11, sl b 12 = v12, sl b 13 = v13, sl b 14 = v14, sl b 15 = v15, sl b 16 = v16, sl b 17 = v17, sl b 18 = v18, sl b 19 = v19, sl b 20 = v20, sl b 21 = v21, sl b 22 = v22, sl b 23 = v23, sl b 24 = v24, sl b 25 = v25, sl b 26 = v26, sl b 27 = v27, sl b 28 = v28, sl b 29 = v29, sl b 30 = v30, sl b 31 = v31, sl b 32 = v32, sl b 33 = v33, sl b 34 = v34, sl b 35 = v35, sl b 36 = v36, sl b 37 = v37, sl b 38 = v38, sl b 39 = v39, sl b 40 = v40, sl b 41 = v41, sl b 42 = v42, sl b 43 = v43
    obtain ⟨x0, x1, x2, x3, x4, x5, x6, x7, x8, x9⟩ := RecBox.cells t0
    have hbel := hR.bel
    have hgr := hR.gr
    clear hB hold hsz hdf hF f2 f3 hR
    go_wp2
    exact bodyPost_ret (by simp [results, Tryd.results35, go_sem, x0, x1, x2, x3, x4, x5, x6, x7, x8, x9]) rfl ⟨.slice a1 k1 c1, .slice a2 k2 c2, rfl, by first | (rw [hk1]; exact own_grown (own_low ho1 hbase) hgr (fun g hg => by simp; omega)) | exact own_grown (own_low ho1 hbase) hgr (fun g hg => by simp; omega), by first | (rw [hk2]; exact own_grown (own_low ho2 hbase) hgr (fun g hg => by simp; omega)) | exact own_grown (own_low ho2 hbase) hgr (fun g hg => by simp; omega), hbel⟩

end Go.Proofs.YtmldpihjndafaabDoor
