/- The contract of names of package line's reader. -/
import Derived.Test.YtmldpihjndafaabDoorTE
import Derived.Laws.AppendOwn
namespace Go.Proofs.YtmldpihjndafaabDoor
open Go.RowKit
set_option linter.unusedSimpArgs false
set_option linter.unusedVariables false

/-- The length of a slice. -/
def lenOf : Value → Nat
  | .slice _ n _ => n
  | _ => 0

theorem lenOf_own {w : World} {base : Nat} {t : TypeId} {z : Nat} {v : Value} {n : Nat} {xs : List Value} (h : w.ownsRow base t z v n xs) : lenOf v = n := by
  rcases h.2 with ⟨rfl, h0⟩ | ⟨g, cap, cur, rfl, _⟩
  · exact h0.symm
  · rfl

theorem own_grown {w w' : World} {base : Nat} {t : TypeId} {z : Nat} {v : Value} {n : Nat} {xs : List Value} {q : Option Nat} (h : w.ownsRow base t z v n xs) (hg : w.grownBy w' q) (hq : ∀ g, base ≤ g → some g ≠ q) : w'.ownsRow base t z v n xs := by
  refine ⟨h.1, ?_⟩
  rcases h.2 with h2 | ⟨g, cap, cur, hv, hb, hh, hrest⟩
  · exact .inl h2
  · refine .inr ⟨g, cap, cur, hv, hb, ?_, hrest⟩
    rw [hg.block g (Array.getElem?_eq_some_iff.1 hh).1 (hq g hb)]
    exact hh

/-- A row of the call's own has grown: of what was there nothing has turned. -/
theorem grown_own {w w1 w2 : World} {base : Nat} {t : TypeId} {z : Nat} {v : Value} {n : Nat} {xs : List Value} {q : Option Nat} (hg : w.grownBy w1 q) (h : w1.ownsRow base t z v n xs) (h2 : w1.grownBy w2 v.ownBlock) (hb : w.heap.size ≤ base) : w.grownBy w2 q :=
  ⟨h2.os.trans hg.os, h2.tape.trans hg.tape, h2.output.trans hg.output, Nat.le_trans hg.size h2.size, fun k hk hne => by
    rw [h2.block k (Nat.lt_of_lt_of_le hk hg.size) (fun e => by
      rcases h.2 with ⟨rfl, _⟩ | ⟨g, cap, cur, rfl, hb2, _⟩
      · simp [Value.ownBlock] at e
      · simp [Value.ownBlock] at e; omega)]
    exact hg.block k hk hne⟩

theorem wordF_less (g : Int) (s : ByteArray) : (wordF g g s).2.2.size < s.size ∨ (wordF g g s).2.1 < 0 := by
  unfold wordF
  rcases takeF_less g s with h | ⟨h, _⟩
  · left; split <;> exact h
  · right; split
    · show (-3 : Int) < 0; omega
    · rw [h]; omega

/-- The names that have this sign ahead, the sign ahead and the rest behind them. -/
def namesF (g : Int) : Nat → Int → ByteArray → List ByteArray × Int × ByteArray
  | 0, nx, s => ([], nx, s)
  | f + 1, nx, s => if nx = g then ((wordF nx g s).1 :: (namesF g f (wordF nx g s).2.1 (wordF nx g s).2.2).1, (namesF g f (wordF nx g s).2.1 (wordF nx g s).2.2).2) else ([], nx, s)

set_option maxRecDepth 100000 in
set_option maxHeartbeats 2000000 in
theorem names_any (L : Nat) (nx g : Int) (s : ByteArray) (T : List ByteArray × Int × ByteArray) (w : World) (hg0 : 0 ≤ g) (hs : s.size ≤ 1000000) (hT : namesF g (s.size + 2) nx s = T) (hL : RBox w L nx s) :
    Calls Tryd.prog 71 #[.pointer (some ⟨L, 0, none⟩), .int .i32 g] w fun e w' => ∃ v, e = .returned v ∧ w'.ownsRow w.heap.size 9 1 v T.1.length (T.1.map Value.string) ∧ RBox w' L T.2.1 T.2.2 ∧ w.grownBy w' (some L) := by
  obtain ⟨i0, hi, hz0, hz1, hz2⟩ := info_parts info9
  have hLw := hL.lt
  go_enter Tryd.func71, Tryd.ntmps71
  go_wp2
  go_loopw [5] (fun v wr => ∃ (nx' : Int) (s' : ByteArray) (xs : List ByteArray) (f : Nat), wr.ownsRow w.heap.size 9 1 v xs.length (xs.map Value.string) ∧ RBox wr L nx' s' ∧ w.grownBy wr (some L) ∧ Hid ((xs ++ (namesF g f nx' s').1, (namesF g f nx' s').2) = T) ∧ (nx' = g → s'.size + 1 ≤ f) ∧ s'.size ≤ 1000000 ∧ xs.length + f = s.size + 2) (fun v _ => s.size + 3 - lenOf v)
  case atStart => exact ⟨nx, s, [], s.size + 2, World.ownsRow_nil _ _ _ _, hL, below_grown (Below.refl _ _) _, (by show _ = _; rw [← hT]; simp), fun _ => by omega, hs, by simp⟩
  case round =>
    obtain ⟨nx', s', xs, f, hown, hL1, hgr, HS, hf, hs', hxf⟩ := hrel
    obtain ⟨c0, c1⟩ := hL1.cells2
    by_cases hq : nx' = g
    · subst hq
      obtain ⟨U, hU⟩ : ∃ U, wordF nx' nx' s' = U := ⟨_, rfl⟩
      obtain ⟨f, rfl⟩ : ∃ f', f = f' + 1 := ⟨f - 1, by have := hf rfl; omega⟩
      have hstep : Hid ((xs ++ (U.1 :: (namesF nx' f U.2.1 U.2.2).1), (namesF nx' f U.2.1 U.2.2).2) = T) := by
        show _ = _
        rw [← HS.out, ← hU]; simp [namesF]
      have hsz : U.2.2.size ≤ s'.size := hU ▸ wordF_size nx' nx' s'
      have hless : U.2.2.size < s'.size ∨ U.2.1 < 0 := hU ▸ wordF_less nx' s'
      have hf1 := hf rfl
      clear HS hf
      obtain ⟨u, n2, s2⟩ := U
      replace hstep : Hid ((xs ++ (u :: (namesF nx' f n2 s2).1), (namesF nx' f n2 s2).2) = T) := hstep
      replace hsz : s2.size ≤ s'.size := hsz
      replace hless : s2.size < s'.size ∨ n2 < 0 := hless
      have hlen := lenOf_own hown
      go_wp2_with (first
        | (go_at_call 54; refine (rname_any L nx' nx' s' _ _ hs' hU hL1).mono ?_; rintro e w2 ⟨rfl, hL2, hg2⟩; have hown2 := own_grown hown hg2 (fun g hg e => by cases e; omega); have hgr2 := grown_trans hgr hg2; have hw2 := hgr2.size)
        | (at_builtin; refine wpList_append_own _ rfl _ _ 31 rfl w.heap.size 9 i0 (.string ⟨#[]⟩) 1 16 Tryd.underlying31 hi hz0 hz1 hz2 rfl (by decide) _ _ _ rfl (hown2.alloc _) ⟨_, 0, none⟩ 1 1 [.string u] rfl rfl (cell_one_new _ _ _) (fun u hu => by simp at hu; subst hu; rfl) (by unfold maxLen; omega) (by omega) (by simp; omega) ?_; intro v' w3 hown' hgrow hnil))
      go_roundw
      case rel =>
        refine ⟨n2, s2, xs ++ [u], f, by simpa using hown', ?_, ?_, ?_, ?_, ?_, ?_⟩
        · exact (hL2.up _).grown hgrow (fun e => by have := (hown2.lt _ e.symm).1; omega)
        · exact grown_own (grown_trans hgr2 (below_grown ((Below.refl _ _).alloc (Nat.le_refl _) _) _)) (hown2.alloc _) hgrow (Nat.le_refl _)
        · show _ = _
          rw [← hstep.out]; simp
        · intro e
          rcases hless with h | h
          · omega
          · omega
        · omega
        · simp; omega
      case measure => rw [lenOf_own hown', hlen]; omega
    · have hTe : T = (xs, nx', s') := by rw [← HS.out]; cases f <;> simp [namesF, hq]
      have bq : (nx' == g) = false := by simpa using hq
      subst hTe
      go_wp2
      go_ret
      exact ⟨_, rfl, hown, hL1, hgr⟩

end Go.Proofs.YtmldpihjndafaabDoor

/- The contract of peers of package line's reader. -/
namespace Go.Proofs.YtmldpihjndafaabDoor
open Go.RowKit
set_option linter.unusedSimpArgs false
set_option linter.unusedVariables false

theorem info3 : (Tryd.prog.info? 3).map (fun i => (i.zero, i.size, i.bytes)) = some (some (.int .i64 0), 1, 8) := by kernel_rfl

theorem numF_less (g : Int) (s : ByteArray) : (numF g g s).2.2.size < s.size ∨ (numF g g s).2.1 < 0 := by
  unfold numF
  split
  · right; show (-3 : Int) < 0; omega
  · split
    · exact wordF_less g s
    · right; show (-3 : Int) < 0; omega

/-- The numbers that have this sign ahead, the sign ahead and the rest behind them. -/
def numsF (g : Int) : Nat → Int → ByteArray → List Nat × Int × ByteArray
  | 0, nx, s => ([], nx, s)
  | f + 1, nx, s => if nx = g then ((numF nx g s).1 :: (numsF g f (numF nx g s).2.1 (numF nx g s).2.2).1, (numsF g f (numF nx g s).2.1 (numF nx g s).2.2).2) else ([], nx, s)

/-- The numbers of peers, the sign ahead and the rest behind them. -/
def peersF (nx : Int) (s : ByteArray) : List Nat × Int × ByteArray :=
  ((numF nx 32 s).1 :: (numsF 44 (s.size + 2) (numF nx 32 s).2.1 (numF nx 32 s).2.2).1, (numsF 44 (s.size + 2) (numF nx 32 s).2.1 (numF nx 32 s).2.2).2)

/-- A number as a value. -/
abbrev natV (n : Nat) : Value := .int .i64 n

set_option maxRecDepth 100000 in
set_option maxHeartbeats 2000000 in
theorem peers_any (L : Nat) (nx : Int) (s : ByteArray) (T : List Nat × Int × ByteArray) (w : World) (hs : s.size ≤ 1000000) (hT : peersF nx s = T) (hL : RBox w L nx s) :
    Calls Tryd.prog 75 #[.pointer (some ⟨L, 0, none⟩)] w fun e w' => ∃ v, e = .returned v ∧ w'.ownsRow w.heap.size 3 1 v T.1.length (T.1.map natV) ∧ RBox w' L T.2.1 T.2.2 ∧ w.grownBy w' (some L) := by
  obtain ⟨i0, hi, hz0, hz1, hz2⟩ := info_parts info3
  have hLw := hL.lt
  unfold peersF at hT
  obtain ⟨U, hU⟩ : ∃ U, numF nx 32 s = U := ⟨_, rfl⟩
  have hsz0 : U.2.2.size ≤ s.size := hU ▸ numF_size nx 32 s
  rw [hU] at hT
  obtain ⟨m, n1, s1⟩ := U
  replace hsz0 : s1.size ≤ s.size := hsz0
  replace hT : (m :: (numsF 44 (s.size + 2) n1 s1).1, (numsF 44 (s.size + 2) n1 s1).2) = T := hT
  go_enter Tryd.func75, Tryd.ntmps75
  go_wp2_with (first
    | (go_at_call 74; refine (number_any L nx 32 s _ _ hs hU hL).mono ?_; rintro e w1 ⟨rfl, hL1, hg1⟩))
  have hw1 := hg1.size
  go_loopw [3] (fun v wr => ∃ (nx' : Int) (s' : ByteArray) (xs : List Nat) (f : Nat), wr.ownsRow w.heap.size 3 1 v xs.length (xs.map natV) ∧ RBox wr L nx' s' ∧ w.grownBy wr (some L) ∧ Hid ((xs ++ (numsF 44 f nx' s').1, (numsF 44 f nx' s').2) = T) ∧ (nx' = 44 → s'.size + 1 ≤ f) ∧ s'.size ≤ 1000000 ∧ xs.length + f = s.size + 3) (fun v _ => s.size + 4 - lenOf v)
  case atStart =>
    refine ⟨n1, s1, [m], s.size + 2, ⟨rfl, .inr ⟨w1.heap.size, 1, #[.int .i64 m], rfl, hw1, heap_alloc_new w1 _, Nat.le_refl _, by decide, rfl, rfl⟩⟩, hL1.up _, grown_trans hg1 (below_grown ((Below.refl _ _).alloc (Nat.le_refl _) _) _), hT, fun _ => by omega, by omega, ?_⟩
    simp; omega
  case round =>
    obtain ⟨nx', s', xs, f, hown, hL1, hgr, HS, hf, hs', hxf⟩ := hrel
    obtain ⟨c0, c1⟩ := hL1.cells2
    by_cases hq : nx' = 44
    · subst hq
      obtain ⟨U, hU⟩ : ∃ U, numF 44 44 s' = U := ⟨_, rfl⟩
      obtain ⟨f, rfl⟩ : ∃ f', f = f' + 1 := ⟨f - 1, by have := hf rfl; omega⟩
      have hstep : Hid ((xs ++ (U.1 :: (numsF 44 f U.2.1 U.2.2).1), (numsF 44 f U.2.1 U.2.2).2) = T) := by
        show _ = _
        rw [← HS.out, ← hU]; simp [numsF]
      have hsz : U.2.2.size ≤ s'.size := hU ▸ numF_size 44 44 s'
      have hless : U.2.2.size < s'.size ∨ U.2.1 < 0 := hU ▸ numF_less 44 s'
      have hf1 := hf rfl
      clear HS hf
      obtain ⟨u, n2, s2⟩ := U
      replace hstep : Hid ((xs ++ (u :: (numsF 44 f n2 s2).1), (numsF 44 f n2 s2).2) = T) := hstep
      replace hsz : s2.size ≤ s'.size := hsz
      replace hless : s2.size < s'.size ∨ n2 < 0 := hless
      have hlen := lenOf_own hown
      go_wp2_with (first
        | (go_at_call 74; refine (number_any L 44 44 s' _ _ hs' hU hL1).mono ?_; rintro e w2 ⟨rfl, hL2, hg2⟩; have hown2 := own_grown hown hg2 (fun g hg e => by cases e; omega); have hgr2 := grown_trans hgr hg2; have hw2 := hgr2.size)
        | (at_builtin; refine wpList_append_own _ rfl _ _ 22 rfl w.heap.size 3 i0 (.int .i64 0) 1 8 Tryd.underlying22 hi hz0 hz1 hz2 rfl (by decide) _ _ _ rfl (hown2.alloc _) ⟨_, 0, none⟩ 1 1 [.int .i64 u] rfl rfl (cell_one_new _ _ _) (fun u hu => by simp at hu; subst hu; rfl) (by unfold maxLen; omega) (by omega) (by simp; omega) ?_; intro v' w3 hown' hgrow hnil))
      go_roundw
      case rel =>
        refine ⟨n2, s2, xs ++ [u], f, by simpa using hown', ?_, ?_, ?_, ?_, ?_, ?_⟩
        · exact (hL2.up _).grown hgrow (fun e => by have := (hown2.lt _ e.symm).1; omega)
        · exact grown_own (grown_trans hgr2 (below_grown ((Below.refl _ _).alloc (Nat.le_refl _) _) _)) (hown2.alloc _) hgrow (Nat.le_refl _)
        · show _ = _
          rw [← hstep.out]; simp
        · intro e
          rcases hless with h | h
          · omega
          · omega
        · omega
        · simp; omega
      case measure => rw [lenOf_own hown', hlen]; omega
    · have hTe : T = (xs, nx', s') := by rw [← HS.out]; cases f <;> simp [numsF, hq]
      have bq : (nx' == 44) = false := by simpa using hq
      subst hTe
      go_wp2
      go_ret
      exact ⟨_, rfl, hown, hL1, hgr⟩

end Go.Proofs.YtmldpihjndafaabDoor
