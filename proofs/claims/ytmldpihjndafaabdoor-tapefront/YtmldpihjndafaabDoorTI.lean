/- The contract of places of package line's reader. -/
import Derived.Test.YtmldpihjndafaabDoorTH
namespace Go.Proofs.YtmldpihjndafaabDoor
open Go.RowKit
set_option linter.unusedSimpArgs false
set_option linter.unusedVariables false

theorem infoPlace : (Tryd.prog.info? 56).map (fun i => (i.zero, i.size, i.bytes)) = some (some (.agg #[.string ⟨#[]⟩, .string ⟨#[]⟩, .int .i64 0, .int .i64 0, .bool false]), 5, 56) := by kernel_rfl

theorem wordF_no {nx g : Int} (s : ByteArray) (h : nx ≠ g) : wordF nx g s = (⟨#[]⟩, -3, s) := by
  unfold wordF takeF
  simp [h]

theorem numF_no {nx g : Int} (s : ByteArray) (h : nx ≠ g) : numF nx g s = (0, -3, s) := by
  unfold numF
  rw [wordF_no s h]
  rfl

theorem vecF_no {nx : Int} (s : ByteArray) (h : nx ≠ 58) : vecF nx s = ((0, 0), -3, s) := by
  unfold vecF
  rw [numF_no s h]
  rw [numF_no s (show (-3 : Int) ≠ 44 by decide)]

theorem placeF_size (nx : Int) (s : ByteArray) : (placeF nx s).2.2.size ≤ s.size := by
  unfold placeF
  have h1 := wordF_size nx 32 s
  obtain ⟨U, hU⟩ : ∃ U, wordF nx 32 s = U := ⟨_, rfl⟩
  rw [hU] at h1 ⊢
  obtain ⟨p, n1, s1⟩ := U
  have h2 := wordF_size n1 62 s1
  obtain ⟨U, hV⟩ : ∃ U, wordF n1 62 s1 = U := ⟨_, rfl⟩
  simp only
  rw [hV] at h2 ⊢
  obtain ⟨n, n2, s2⟩ := U
  have h3 := vecF_size n2 s2
  obtain ⟨U, hW⟩ : ∃ U, vecF n2 s2 = U := ⟨_, rfl⟩
  simp only
  rw [hW] at h3 ⊢
  obtain ⟨⟨c, m⟩, n3, s3⟩ := U
  have h4 := flagF_size n3 s3
  obtain ⟨U, hX⟩ : ∃ U, flagF n3 s3 = U := ⟨_, rfl⟩
  simp only
  rw [hX] at h4 ⊢
  obtain ⟨a, n4, s4⟩ := U
  simp only at *
  omega

theorem placeF_less (s : ByteArray) : (placeF 32 s).2.2.size < s.size ∨ (placeF 32 s).2.1 < 0 := by
  have h := wordF_less 32 s
  unfold placeF
  obtain ⟨U, hU⟩ : ∃ U, wordF 32 32 s = U := ⟨_, rfl⟩
  rw [hU] at h ⊢
  obtain ⟨p, n1, s1⟩ := U
  simp only at h ⊢
  rcases h with h | h
  · left
    have h2 := wordF_size n1 62 s1
    obtain ⟨U, hV⟩ : ∃ U, wordF n1 62 s1 = U := ⟨_, rfl⟩
    rw [hV] at h2 ⊢
    obtain ⟨n, n2, s2⟩ := U
    have h3 := vecF_size n2 s2
    obtain ⟨U, hW⟩ : ∃ U, vecF n2 s2 = U := ⟨_, rfl⟩
    simp only
    rw [hW] at h3 ⊢
    obtain ⟨⟨c, m⟩, n3, s3⟩ := U
    have h4 := flagF_size n3 s3
    obtain ⟨U, hX⟩ : ∃ U, flagF n3 s3 = U := ⟨_, rfl⟩
    simp only
    rw [hX] at h4 ⊢
    obtain ⟨a, n4, s4⟩ := U
    simp only at *
    omega
  · right
    rw [wordF_no s1 (by omega : n1 ≠ 62)]
    simp only
    rw [vecF_no s1 (by decide)]
    show (flagF (-3) s1).2.1 < 0
    simp [flagF]

/-- The cells of a place. -/
def placeCells (p : PlaceB) : List Value := [.string p.pod, .string p.node, .int .i64 p.cpu, .int .i64 p.mem, .bool p.alone]

theorem placeCells_len (xs : List PlaceB) : (xs.flatMap placeCells).length = xs.length * 5 := by
  induction xs with
  | nil => rfl
  | cons x xs ih => simp only [List.flatMap_cons, List.length_append, ih, placeCells, List.length_cons, List.length_nil]; omega

theorem place_news (w : World) (u : PlaceB) (t : TypeId) : ∀ j z, (placeCells u)[j]? = some z → (w.alloc (.cells #[.string u.pod, .string u.node, .int .i64 u.cpu, .int .i64 u.mem, .bool u.alone] t)).cell? ((⟨w.heap.size, 0, none⟩ : Addr).add j) = some z := by
  intro j z h
  have hb := Box.new w #[.string u.pod, .string u.node, .int .i64 u.cpu, .int .i64 u.mem, .bool u.alone] t rfl
  have := hb.cell (i := j) (v := z) (by simpa [placeCells] using h)
  unfold Addr.add
  split
  · next h0 => have h0 : j = 0 := h0; subst h0; exact this
  · simpa only [Nat.zero_add] using this

theorem place_oneCell (u : PlaceB) : ∀ z ∈ placeCells u, z.oneCell' = true := by
  intro z h
  simp only [placeCells, List.mem_cons, List.mem_nil_iff, or_false] at h
  rcases h with rfl | rfl | rfl | rfl | rfl <;> rfl

/-- The places that follow, the sign ahead and the rest behind them. -/
def placesF : Nat → Int → ByteArray → List PlaceB × Int × ByteArray
  | 0, nx, s => ([], nx, s)
  | f + 1, nx, s => if nx = 32 then ((placeF nx s).1 :: (placesF f (placeF nx s).2.1 (placeF nx s).2.2).1, (placesF f (placeF nx s).2.1 (placeF nx s).2.2).2) else ([], nx, s)

set_option maxRecDepth 100000 in
set_option maxHeartbeats 2000000 in
theorem places_any (L : Nat) (nx : Int) (s : ByteArray) (T : List PlaceB × Int × ByteArray) (w : World) (hs : s.size ≤ 1000000) (hT : placesF (s.size + 2) nx s = T) (hL : RBox w L nx s) :
    Calls Tryd.prog 76 #[.pointer (some ⟨L, 0, none⟩)] w fun e w' => ∃ v, e = .returned v ∧ w'.ownsRow w.heap.size 56 5 v T.1.length (T.1.flatMap placeCells) ∧ RBox w' L T.2.1 T.2.2 ∧ w.grownBy w' (some L) := by
  obtain ⟨i0, hi, hz0, hz1, hz2⟩ := info_parts infoPlace
  have hLw := hL.lt
  go_enter Tryd.func76, Tryd.ntmps76
  go_wp2
  go_loopw [3] (fun v wr => ∃ (nx' : Int) (s' : ByteArray) (xs : List PlaceB) (f : Nat), wr.ownsRow w.heap.size 56 5 v xs.length (xs.flatMap placeCells) ∧ RBox wr L nx' s' ∧ w.grownBy wr (some L) ∧ Hid ((xs ++ (placesF f nx' s').1, (placesF f nx' s').2) = T) ∧ (nx' = 32 → s'.size + 1 ≤ f) ∧ s'.size ≤ 1000000 ∧ xs.length + f = s.size + 2) (fun v _ => s.size + 3 - lenOf v)
  case atStart => exact ⟨nx, s, [], s.size + 2, World.ownsRow_nil _ _ _ _, hL, below_grown (Below.refl _ _) _, (by show _ = _; rw [← hT]; simp), fun _ => by omega, hs, by simp⟩
  case round =>
    obtain ⟨nx', s', xs, f, hown, hL1, hgr, HS, hf, hs', hxf⟩ := hrel
    obtain ⟨c0, c1⟩ := hL1.cells2
    by_cases hq : nx' = 32
    · subst hq
      obtain ⟨U, hU⟩ : ∃ U, placeF 32 s' = U := ⟨_, rfl⟩
      obtain ⟨f, rfl⟩ : ∃ f', f = f' + 1 := ⟨f - 1, by have := hf rfl; omega⟩
      have hstep : Hid ((xs ++ (U.1 :: (placesF f U.2.1 U.2.2).1), (placesF f U.2.1 U.2.2).2) = T) := by
        show _ = _
        rw [← HS.out, ← hU]; simp [placesF]
      have hsz : U.2.2.size ≤ s'.size := hU ▸ placeF_size 32 s'
      have hless : U.2.2.size < s'.size ∨ U.2.1 < 0 := hU ▸ placeF_less s'
      have hf1 := hf rfl
      clear HS hf
      obtain ⟨u, n2, s2⟩ := U
      replace hstep : Hid ((xs ++ (u :: (placesF f n2 s2).1), (placesF f n2 s2).2) = T) := hstep
      replace hsz : s2.size ≤ s'.size := hsz
      replace hless : s2.size < s'.size ∨ n2 < 0 := hless
      have hlen := lenOf_own hown
      go_wp2_with (first
        | (go_at_call 84; refine (place_any L 32 s' _ _ hs' hU hL1).mono ?_; rintro e w2 ⟨rfl, hL2, hg2⟩; have hown2 := own_grown hown hg2 (fun g hg e => by cases e; omega); have hgr2 := grown_trans hgr hg2; have hw2 := hgr2.size)
        | (at_builtin; refine wpList_append_own _ rfl _ _ 28 rfl w.heap.size 56 i0 (.agg #[.string ⟨#[]⟩, .string ⟨#[]⟩, .int .i64 0, .int .i64 0, .bool false]) 5 56 Tryd.underlying28 hi hz0 hz1 hz2 rfl (by decide) _ _ _ rfl (hown2.alloc _) ⟨_, 0, none⟩ 1 1 (placeCells u) rfl rfl (place_news _ _ _) (place_oneCell u) (by unfold maxLen; omega) (by omega) (by simp; omega) ?_; intro v' w3 hown' hgrow hnil))
      go_roundw
      case rel =>
        refine ⟨n2, s2, xs ++ [u], f, by simpa using hown', ?_, ?_, ?_, ?_, ?_, ?_⟩
        · exact (hL2.up _).grown hgrow (fun e => by have := (hown2.lt _ e.symm).1; omega)
        · exact grown_own (grown_trans hgr2 (below_grown ((Below.refl _ _).alloc (Nat.le_refl _) _) _)) (hown2.alloc _) hgrow (Nat.le_refl _)
        · show _ = _
          rw [← hstep.out]; simp
        · intro e
          rcases hless with h | h
          · omega
          · omega
        · omega
        · simp; omega
      case measure => rw [lenOf_own hown', hlen]; omega
    · have hTe : T = (xs, nx', s') := by rw [← HS.out]; cases f <;> simp [placesF, hq]
      have bq : (nx' == 32) = false := by simpa using hq
      subst hTe
      go_wp2
      go_ret
      exact ⟨_, rfl, hown, hL1, hgr⟩

end Go.Proofs.YtmldpihjndafaabDoor
