/- The contracts of name and vec of package line's reader. -/
import Derived.Test.YtlehlbgaboifoabGreatDoorMg06
import Derived.Test.YtlehlbgaboifoabGreatDoorMg08
import Derived.Laws.AppendOwn
import Derived.Shelf.Strings.Builder1
import Derived.Maps.AppendAt
import Derived.Lib.UnsafeStr
import Derived.BigRegion
namespace Go.Proofs.YtlehlbgaboifoabGreatDoor
open Go.RowKit
set_option linter.unusedSimpArgs false
set_option linter.unusedVariables false

theorem info9 : (Tryz.prog.info? 9).map (fun i => (i.zero, i.size, i.bytes)) = some (some (.string ⟨#[]⟩), 1, 16) := by kernel_rfl

theorem strings_oneCell (ts : List ByteArray) : ∀ u ∈ ts.map Value.string, u.oneCell' = true := by
  intro u hu
  obtain ⟨s, _, rfl⟩ := List.mem_map.1 hu
  rfl

theorem wordF_word (nx g : Int) (s : ByteArray) : (wordF nx g s).1.size ≤ s.size := by
  unfold wordF
  split
  · exact takeF_word nx g s
  · exact takeF_word nx g s

theorem wordF_size (nx g : Int) (s : ByteArray) : (wordF nx g s).2.2.size ≤ s.size := by
  unfold wordF
  split
  · exact takeF_size nx g s
  · exact takeF_size nx g s

theorem numF_size (nx g : Int) (s : ByteArray) : (numF nx g s).2.2.size ≤ s.size := by
  unfold numF
  split
  · exact wordF_size nx g s
  · split
    · exact wordF_size nx g s
    · exact wordF_size nx g s

theorem clone_any (s : ByteArray) (w : World) (hs : s.size ≤ 1000000) :
    Calls Tryz.prog 205 #[.string s] w fun e w' => e = .returned (.string s) ∧ Below w.heap.size w w' := by
  go_enter Tryz.func205, Tryz.ntmps205
  go_wp2_with (go_at_call 224; refine (Tryz.stringslite_Clone _ _ (by omega)).mono ?_; rintro e w2 ⟨rfl, hb2⟩)
  go_ret
  exact ⟨rfl, hb2⟩

theorem rname_any (L : Nat) (nx g : Int) (s : ByteArray) (T : ByteArray × Int × ByteArray) (w : World) (hs : s.size ≤ 1000000) (hT : wordF nx g s = T) (hL : RBox w L nx s) :
    Calls Tryz.prog 169 #[.pointer (some ⟨L, 0, none⟩), .int .i32 g] w fun e w' => e = .returned (.string T.1) ∧ RBox w' L T.2.1 T.2.2 ∧ w.grownBy w' (some L) := by
  have hz := wordF_word nx g s
  rw [hT] at hz
  obtain ⟨u, n2, s2⟩ := T
  simp only at hz
  go_enter Tryz.func169, Tryz.ntmps169
  go_wp2_with (first
    | (go_at_call 167; refine (word_any L nx g s _ _ hs hT hL).mono ?_; rintro e w1 ⟨rfl, hL1, hg1⟩)
    | (go_at_call 205; refine (clone_any _ _ (by omega)).mono ?_; rintro e w2 ⟨rfl, hb2⟩))
  go_ret
  exact ⟨rfl, hL1.later hb2, grown_trans hg1 (below_grown hb2 _)⟩

theorem grown_new {w w1 : World} {q : Option Nat} (h : w.grownBy w1 q) {b : Nat} (hb : w.heap.size ≤ b) (i : Nat) (v : Value) : w.grownBy (w1.setCell ⟨b, i, none⟩ v) q := by
  have h2 := (Below.refl 0 w1).setCell (p := ⟨b, i, none⟩) (Nat.zero_le _) v
  exact ⟨h2.os.trans h.os, h2.tape.trans h.tape, h2.output.trans h.output, Nat.le_trans h.size h2.size, fun k hk hne => by
    rw [Below.heap_setCell w1 _ v k (fun e => by have : k = b := e; omega)]
    exact h.block k hk hne⟩

/-- What vec tells, the sign ahead and the rest behind it. -/
def vecF (nx : Int) (s : ByteArray) : (Nat × Nat) × Int × ByteArray :=
  (((numF nx 58 s).1, (numF (numF nx 58 s).2.1 44 (numF nx 58 s).2.2).1), (numF (numF nx 58 s).2.1 44 (numF nx 58 s).2.2).2)

theorem vecF_size (nx : Int) (s : ByteArray) : (vecF nx s).2.2.size ≤ s.size := Nat.le_trans (numF_size _ _ _) (numF_size _ _ _)

set_option maxRecDepth 100000 in
theorem vec_any (L : Nat) (nx : Int) (s : ByteArray) (T : (Nat × Nat) × Int × ByteArray) (w : World) (hs : s.size ≤ 1000000) (hT : vecF nx s = T) (hL : RBox w L nx s) :
    Calls Tryz.prog 202 #[.pointer (some ⟨L, 0, none⟩)] w fun e w' => e = .returned (.agg #[.int .i64 T.1.1, .int .i64 T.1.2]) ∧ RBox w' L T.2.1 T.2.2 ∧ w.grownBy w' (some L) := by
  unfold vecF at hT
  obtain ⟨U, hU⟩ : ∃ U, numF nx 58 s = U := ⟨_, rfl⟩
  rw [hU] at hT
  have hz : U.2.2.size ≤ s.size := hU ▸ numF_size nx 58 s
  obtain ⟨m, n2, s2⟩ := U
  replace hz : s2.size ≤ s.size := hz
  obtain ⟨V, hV⟩ : ∃ V, numF n2 44 s2 = V := ⟨_, rfl⟩
  replace hT : ((m, (numF n2 44 s2).1), (numF n2 44 s2).2) = T := hT
  rw [hV] at hT
  obtain ⟨m3, n3, s3⟩ := V
  replace hT : ((m, m3), n3, s3) = T := hT
  subst hT
  show Calls Tryz.prog 202 #[.pointer (some ⟨L, 0, none⟩)] w fun e w' => e = .returned (.agg #[.int .i64 m, .int .i64 m3]) ∧ RBox w' L n3 s3 ∧ w.grownBy w' (some L)
  have hne : w.heap.size ≠ L := by have := hL.lt; omega
  have hL0 : RBox (w.alloc (.cells #[.int .i64 0, .int .i64 0] 57)) L nx s := hL.up _
  have hB0 : Box (w.alloc (.cells #[.int .i64 0, .int .i64 0] 57)) w.heap.size #[.int .i64 0, .int .i64 0] 57 := Box.new w _ _ rfl
  have hg0 : w.grownBy (w.alloc (.cells #[.int .i64 0, .int .i64 0] 57)) (some L) := below_grown ((Below.refl _ _).alloc (Nat.le_refl _) _) _
  go_enter Tryz.func202, Tryz.ntmps202
  go_wp2_with (first
    | (go_at_call 206; refine (number_any L n2 44 s2 _ _ (by omega) hV hL1).mono ?_; rintro e w2 ⟨rfl, hL2, hg2⟩; have hB2 := (hB0.grown hg1 (by simpa using hne)).grown hg2 (by simpa using hne); obtain ⟨x0, x1⟩ := hB2.cells2; have y0 := hB2.frozen 0; have y1 := hB2.frozen 1)
    | (go_at_call 206; refine (number_any L nx 58 s _ _ hs hU hL0).mono ?_; rintro e w1 ⟨rfl, hL1, hg1⟩))
  have hB3 : Box ((w2.setCell ⟨w.heap.size, 0, none⟩ (.int .i64 m)).setCell ⟨w.heap.size, 1, none⟩ (.int .i64 m3)) w.heap.size #[.int .i64 m, .int .i64 m3] 57 := (hB2.set 0 _).set 1 _
  obtain ⟨r0, r1⟩ := hB3.cells2
  refine bodyPost_ret (by simp [results, Tryz.results202, go_sem, r0, r1]) rfl ⟨rfl, ?_, ?_⟩
  · exact (hL2.other (Ne.symm hne) _ _).other (Ne.symm hne) _ _
  · exact grown_new (grown_new (grown_trans hg0 (grown_trans hg1 hg2)) (Nat.le_refl _) _ _) (Nat.le_refl _) _ _

end Go.Proofs.YtlehlbgaboifoabGreatDoor

/- The contracts of verbOf, kindOf, known, peered of package line. -/
namespace Go.Proofs.YtlehlbgaboifoabGreatDoor
open Go.RowKit
set_option linter.unusedSimpArgs false
set_option linter.unusedVariables false

/-- The verb of a kind. -/
def verbB : Nat → ByteArray
  | 1 => ⟨#[110, 111, 100, 101]⟩
  | 2 => ⟨#[103, 111, 110, 101]⟩
  | 3 => ⟨#[112, 114, 101, 112, 97, 114, 101]⟩
  | 4 => ⟨#[99, 111, 109, 109, 105, 116]⟩
  | 5 => ⟨#[97, 98, 111, 114, 116]⟩
  | 6 => ⟨#[114, 101, 108, 101, 97, 115, 101]⟩
  | 7 => ⟨#[103, 97, 110, 103]⟩
  | _ => ⟨#[]⟩

theorem verbOf_any (k : Nat) (h1 : 1 ≤ k) (h7 : k ≤ 7) (w : World) :
    Calls Tryz.prog 189 #[.int .i64 k] w fun e w' => e = .returned (.string (verbB k)) ∧ w' = w := by
  rcases (by omega : k = 1 ∨ k = 2 ∨ k = 3 ∨ k = 4 ∨ k = 5 ∨ k = 6 ∨ k = 7) with rfl | rfl | rfl | rfl | rfl | rfl | rfl
  all_goals
    go_enter Tryz.func189, Tryz.ntmps189
    go_wp2
    go_ret
    exact ⟨rfl, rfl⟩

theorem bytes_ne {a b : ByteArray} (h : a ≠ b) : (a.toList == b.toList) = false := by
  rw [beq_eq_false_iff_ne]
  intro e
  rw [ByteArray.toList_eq, ByteArray.toList_eq] at e
  exact h (ByteArray.ext (Array.toList_inj.1 e))

/-- The kind of this verb from this one on, 0 if there is none. -/
def kindR (v : ByteArray) : Nat → Nat → Nat
  | 0, _ => 0
  | f + 1, k => if verbB k = v then k else kindR v f (k + 1)

set_option maxRecDepth 100000 in
theorem kindOf_any (v : ByteArray) (w : World) :
    Calls Tryz.prog 166 #[.string v] w fun e w' => e = .returned (.int .i64 (kindR v 7 1)) ∧ w' = w := by
  obtain ⟨K, hK⟩ : ∃ K, kindR v 7 1 = K := ⟨_, rfl⟩
  rw [hK]
  go_enter Tryz.func166, Tryz.ntmps166
  go_wp2
  go_loopw [3] (fun x wr => ∃ (k f : Nat), x = .int .i64 k ∧ wr = w ∧ Hid (kindR v f k = K) ∧ k + f = 8 ∧ 1 ≤ k) (fun x _ => 8 - (intOf x).toNat)
  case atStart => exact ⟨1, 7, rfl, rfl, hK, by omega, by omega⟩
  case round =>
    obtain ⟨k, f, rfl, rfl, HS, hkf, hk1⟩ := hrel
    by_cases h7 : (k : Int) ≤ 7
    · obtain ⟨f, rfl⟩ : ∃ f', f = f' + 1 := ⟨f - 1, by omega⟩
      obtain ⟨V, hV⟩ : ∃ V, verbB k = V := ⟨_, rfl⟩
      have hstep : Hid (K = if V = v then k else kindR v f (k + 1)) := by show _ = _; rw [← HS.out, ← hV]; rfl
      clear HS
      by_cases hv : V = v
      · have hKk : K = k := by rw [hstep.out, if_pos hv]
        clear hstep
        subst hv
        subst hKk
        go_wp2_with (go_at_call 189; refine (verbOf_any _ hk1 (by omega) _).mono ?_; rw [hV]; rintro e w1 ⟨rfl, rfl⟩)
        go_ret
        exact ⟨rfl, rfl⟩
      · have hKk : Hid (kindR v f (k + 1) = K) := by show _ = _; rw [hstep.out, if_neg hv]
        clear hstep
        have bv : (V.toList == v.toList) = false := bytes_ne hv
        go_wp2_with (go_at_call 189; refine (verbOf_any _ hk1 (by omega) _).mono ?_; rw [hV]; rintro e w1 ⟨rfl, rfl⟩)
        go_roundw
        case rel => exact ⟨k + 1, f, by go_num, trivial, hKk, by omega, by omega⟩
        case measure => simp [intOf]; omega
    · have hKk : K = 0 := by rw [← HS.out, (by omega : f = 0)]; rfl
      subst hKk
      go_wp2
      go_ret
      exact ⟨rfl, rfl⟩

theorem known_all (k : Int) (w : World) :
    Calls Tryz.prog 79 #[.int .i64 k] w fun e w' => e = .returned (.bool (decide (1 ≤ k) && decide (k ≤ 7))) ∧ w' = w := by
  by_cases h1 : 1 ≤ k
  · have d1 : decide (1 ≤ k) = true := by simpa using h1
    rw [d1]
    go_enter Tryz.func79, Tryz.ntmps79
    go_wp2
    go_ret
    exact ⟨rfl, rfl⟩
  · have d1 : decide (1 ≤ k) = false := by simpa using h1
    rw [d1]
    go_enter Tryz.func79, Tryz.ntmps79
    go_wp2
    go_ret
    exact ⟨rfl, rfl⟩

theorem peered_all (k : Int) (w : World) :
    Calls Tryz.prog 117 #[.int .i64 k] w fun e w' => e = .returned (.bool (decide (k = 3) || decide (k = 7))) ∧ w' = w := by
  by_cases h1 : k = 3
  · subst h1
    go_enter Tryz.func117, Tryz.ntmps117
    go_wp2
    go_ret
    exact ⟨rfl, rfl⟩
  by_cases h2 : k = 7
  · subst h2
    go_enter Tryz.func117, Tryz.ntmps117
    go_wp2
    go_ret
    exact ⟨rfl, rfl⟩
  · have b1 : (k == 3) = false := by simpa using h1
    have b2 : (k == 7) = false := by simpa using h2
    go_enter Tryz.func117, Tryz.ntmps117
    go_wp2
    go_ret
    exact ⟨by simp [h1, h2, b1, b2], rfl⟩

end Go.Proofs.YtlehlbgaboifoabGreatDoor

/- The contract of names of package line's reader. -/
namespace Go.Proofs.YtlehlbgaboifoabGreatDoor
open Go.RowKit
set_option linter.unusedSimpArgs false
set_option linter.unusedVariables false

/-- The length of a slice. -/
def lenOf : Value → Nat
  | .slice _ n _ => n
  | _ => 0

theorem lenOf_own {w : World} {base : Nat} {t : TypeId} {z : Nat} {v : Value} {n : Nat} {xs : List Value} (h : w.ownsRow base t z v n xs) : lenOf v = n := by
  rcases h.2 with ⟨rfl, h0⟩ | ⟨g, cap, cur, rfl, _⟩
  · exact h0.symm
  · rfl

theorem own_grown {w w' : World} {base : Nat} {t : TypeId} {z : Nat} {v : Value} {n : Nat} {xs : List Value} {q : Option Nat} (h : w.ownsRow base t z v n xs) (hg : w.grownBy w' q) (hq : ∀ g, base ≤ g → some g ≠ q) : w'.ownsRow base t z v n xs := by
  refine ⟨h.1, ?_⟩
  rcases h.2 with h2 | ⟨g, cap, cur, hv, hb, hh, hrest⟩
  · exact .inl h2
  · refine .inr ⟨g, cap, cur, hv, hb, ?_, hrest⟩
    rw [hg.block g (Array.getElem?_eq_some_iff.1 hh).1 (hq g hb)]
    exact hh

/-- A row of the call's own has grown: of what was there nothing has turned. -/
theorem grown_own {w w1 w2 : World} {base : Nat} {t : TypeId} {z : Nat} {v : Value} {n : Nat} {xs : List Value} {q : Option Nat} (hg : w.grownBy w1 q) (h : w1.ownsRow base t z v n xs) (h2 : w1.grownBy w2 v.ownBlock) (hb : w.heap.size ≤ base) : w.grownBy w2 q :=
  ⟨h2.os.trans hg.os, h2.tape.trans hg.tape, h2.output.trans hg.output, Nat.le_trans hg.size h2.size, fun k hk hne => by
    rw [h2.block k (Nat.lt_of_lt_of_le hk hg.size) (fun e => by
      rcases h.2 with ⟨rfl, _⟩ | ⟨g, cap, cur, rfl, hb2, _⟩
      · simp [Value.ownBlock] at e
      · simp [Value.ownBlock] at e; omega)]
    exact hg.block k hk hne⟩

theorem wordF_less (g : Int) (s : ByteArray) : (wordF g g s).2.2.size < s.size ∨ (wordF g g s).2.1 < 0 := by
  unfold wordF
  rcases takeF_less g s with h | ⟨h, _⟩
  · left; split <;> exact h
  · right; split
    · show (-3 : Int) < 0; omega
    · rw [h]; omega

/-- The names that have this sign ahead, the sign ahead and the rest behind them. -/
def namesF (g : Int) : Nat → Int → ByteArray → List ByteArray × Int × ByteArray
  | 0, nx, s => ([], nx, s)
  | f + 1, nx, s => if nx = g then ((wordF nx g s).1 :: (namesF g f (wordF nx g s).2.1 (wordF nx g s).2.2).1, (namesF g f (wordF nx g s).2.1 (wordF nx g s).2.2).2) else ([], nx, s)

set_option maxRecDepth 100000 in
set_option maxHeartbeats 2000000 in
theorem names_any (L : Nat) (nx g : Int) (s : ByteArray) (T : List ByteArray × Int × ByteArray) (w : World) (hg0 : 0 ≤ g) (hs : s.size ≤ 1000000) (hT : namesF g (s.size + 2) nx s = T) (hL : RBox w L nx s) :
    Calls Tryz.prog 203 #[.pointer (some ⟨L, 0, none⟩), .int .i32 g] w fun e w' => ∃ v, e = .returned v ∧ w'.ownsRow w.heap.size 9 1 v T.1.length (T.1.map Value.string) ∧ RBox w' L T.2.1 T.2.2 ∧ w.grownBy w' (some L) := by
  obtain ⟨i0, hi, hz0, hz1, hz2⟩ := info_parts info9
  have hLw := hL.lt
  go_enter Tryz.func203, Tryz.ntmps203
  go_wp2
  go_loopw [5] (fun v wr => ∃ (nx' : Int) (s' : ByteArray) (xs : List ByteArray) (f : Nat), wr.ownsRow w.heap.size 9 1 v xs.length (xs.map Value.string) ∧ RBox wr L nx' s' ∧ w.grownBy wr (some L) ∧ Hid ((xs ++ (namesF g f nx' s').1, (namesF g f nx' s').2) = T) ∧ (nx' = g → s'.size + 1 ≤ f) ∧ s'.size ≤ 1000000 ∧ xs.length + f = s.size + 2) (fun v _ => s.size + 3 - lenOf v)
  case atStart => exact ⟨nx, s, [], s.size + 2, World.ownsRow_nil _ _ _ _, hL, below_grown (Below.refl _ _) _, (by show _ = _; rw [← hT]; simp), fun _ => by omega, hs, by simp⟩
  case round =>
    obtain ⟨nx', s', xs, f, hown, hL1, hgr, HS, hf, hs', hxf⟩ := hrel
    obtain ⟨c0, c1⟩ := hL1.cells2
    by_cases hq : nx' = g
    · subst hq
      obtain ⟨U, hU⟩ : ∃ U, wordF nx' nx' s' = U := ⟨_, rfl⟩
      obtain ⟨f, rfl⟩ : ∃ f', f = f' + 1 := ⟨f - 1, by have := hf rfl; omega⟩
      have hstep : Hid ((xs ++ (U.1 :: (namesF nx' f U.2.1 U.2.2).1), (namesF nx' f U.2.1 U.2.2).2) = T) := by
        show _ = _
        rw [← HS.out, ← hU]; simp [namesF]
      have hsz : U.2.2.size ≤ s'.size := hU ▸ wordF_size nx' nx' s'
      have hless : U.2.2.size < s'.size ∨ U.2.1 < 0 := hU ▸ wordF_less nx' s'
      have hf1 := hf rfl
      clear HS hf
      obtain ⟨u, n2, s2⟩ := U
      replace hstep : Hid ((xs ++ (u :: (namesF nx' f n2 s2).1), (namesF nx' f n2 s2).2) = T) := hstep
      replace hsz : s2.size ≤ s'.size := hsz
      replace hless : s2.size < s'.size ∨ n2 < 0 := hless
      have hlen := lenOf_own hown
      go_wp2_with (first
        | (go_at_call 169; refine (rname_any L nx' nx' s' _ _ hs' hU hL1).mono ?_; rintro e w2 ⟨rfl, hL2, hg2⟩; have hown2 := own_grown hown hg2 (fun g hg e => by cases e; omega); have hgr2 := grown_trans hgr hg2; have hw2 := hgr2.size)
        | (at_builtin; refine wpList_append_own _ rfl _ _ 58 rfl w.heap.size 9 i0 (.string ⟨#[]⟩) 1 16 Tryz.underlying58 hi hz0 hz1 hz2 rfl (by decide) _ _ _ rfl (hown2.alloc _) ⟨_, 0, none⟩ 1 1 [.string u] rfl rfl (cell_one_new _ _ _) (fun u hu => by simp at hu; subst hu; rfl) (by unfold maxLen; omega) (by omega) (by simp; omega) ?_; intro v' w3 hown' hgrow hnil))
      go_roundw
      case rel =>
        refine ⟨n2, s2, xs ++ [u], f, by simpa using hown', ?_, ?_, ?_, ?_, ?_, ?_⟩
        · exact (hL2.up _).grown hgrow (fun e => by have := (hown2.lt _ e.symm).1; omega)
        · exact grown_own (grown_trans hgr2 (below_grown ((Below.refl _ _).alloc (Nat.le_refl _) _) _)) (hown2.alloc _) hgrow (Nat.le_refl _)
        · show _ = _
          rw [← hstep.out]; simp
        · intro e
          rcases hless with h | h
          · omega
          · omega
        · omega
        · simp; omega
      case measure => rw [lenOf_own hown', hlen]; omega
    · have hTe : T = (xs, nx', s') := by rw [← HS.out]; cases f <;> simp [namesF, hq]
      have bq : (nx' == g) = false := by simpa using hq
      subst hTe
      go_wp2
      go_ret
      exact ⟨_, rfl, hown, hL1, hgr⟩

end Go.Proofs.YtlehlbgaboifoabGreatDoor

/- The contract of peers of package line's reader. -/
namespace Go.Proofs.YtlehlbgaboifoabGreatDoor
open Go.RowKit
set_option linter.unusedSimpArgs false
set_option linter.unusedVariables false

theorem tinfo3 : (Tryz.prog.info? 3).map (fun i => (i.zero, i.size, i.bytes)) = some (some (.int .i64 0), 1, 8) := by kernel_rfl

theorem numF_less (g : Int) (s : ByteArray) : (numF g g s).2.2.size < s.size ∨ (numF g g s).2.1 < 0 := by
  unfold numF
  split
  · right; show (-3 : Int) < 0; omega
  · split
    · exact wordF_less g s
    · right; show (-3 : Int) < 0; omega

/-- The numbers that have this sign ahead, the sign ahead and the rest behind them. -/
def numsF (g : Int) : Nat → Int → ByteArray → List Nat × Int × ByteArray
  | 0, nx, s => ([], nx, s)
  | f + 1, nx, s => if nx = g then ((numF nx g s).1 :: (numsF g f (numF nx g s).2.1 (numF nx g s).2.2).1, (numsF g f (numF nx g s).2.1 (numF nx g s).2.2).2) else ([], nx, s)

/-- The numbers of peers, the sign ahead and the rest behind them. -/
def peersF (nx : Int) (s : ByteArray) : List Nat × Int × ByteArray :=
  ((numF nx 32 s).1 :: (numsF 44 (s.size + 2) (numF nx 32 s).2.1 (numF nx 32 s).2.2).1, (numsF 44 (s.size + 2) (numF nx 32 s).2.1 (numF nx 32 s).2.2).2)

/-- A number as a value. -/
abbrev natV (n : Nat) : Value := .int .i64 n

set_option maxRecDepth 100000 in
set_option maxHeartbeats 2000000 in
theorem peers_any (L : Nat) (nx : Int) (s : ByteArray) (T : List Nat × Int × ByteArray) (w : World) (hs : s.size ≤ 1000000) (hT : peersF nx s = T) (hL : RBox w L nx s) :
    Calls Tryz.prog 207 #[.pointer (some ⟨L, 0, none⟩)] w fun e w' => ∃ v, e = .returned v ∧ w'.ownsRow w.heap.size 3 1 v T.1.length (T.1.map natV) ∧ RBox w' L T.2.1 T.2.2 ∧ w.grownBy w' (some L) := by
  obtain ⟨i0, hi, hz0, hz1, hz2⟩ := info_parts tinfo3
  have hLw := hL.lt
  unfold peersF at hT
  obtain ⟨U, hU⟩ : ∃ U, numF nx 32 s = U := ⟨_, rfl⟩
  have hsz0 : U.2.2.size ≤ s.size := hU ▸ numF_size nx 32 s
  rw [hU] at hT
  obtain ⟨m, n1, s1⟩ := U
  replace hsz0 : s1.size ≤ s.size := hsz0
  replace hT : (m :: (numsF 44 (s.size + 2) n1 s1).1, (numsF 44 (s.size + 2) n1 s1).2) = T := hT
  go_enter Tryz.func207, Tryz.ntmps207
  go_wp2_with (first
    | (go_at_call 206; refine (number_any L nx 32 s _ _ hs hU hL).mono ?_; rintro e w1 ⟨rfl, hL1, hg1⟩))
  have hw1 := hg1.size
  go_loopw [3] (fun v wr => ∃ (nx' : Int) (s' : ByteArray) (xs : List Nat) (f : Nat), wr.ownsRow w.heap.size 3 1 v xs.length (xs.map natV) ∧ RBox wr L nx' s' ∧ w.grownBy wr (some L) ∧ Hid ((xs ++ (numsF 44 f nx' s').1, (numsF 44 f nx' s').2) = T) ∧ (nx' = 44 → s'.size + 1 ≤ f) ∧ s'.size ≤ 1000000 ∧ xs.length + f = s.size + 3) (fun v _ => s.size + 4 - lenOf v)
  case atStart =>
    refine ⟨n1, s1, [m], s.size + 2, ⟨rfl, .inr ⟨w1.heap.size, 1, #[.int .i64 m], rfl, hw1, heap_alloc_new w1 _, Nat.le_refl _, by decide, rfl, rfl⟩⟩, hL1.up _, grown_trans hg1 (below_grown ((Below.refl _ _).alloc (Nat.le_refl _) _) _), hT, fun _ => by omega, by omega, ?_⟩
    simp; omega
  case round =>
    obtain ⟨nx', s', xs, f, hown, hL1, hgr, HS, hf, hs', hxf⟩ := hrel
    obtain ⟨c0, c1⟩ := hL1.cells2
    by_cases hq : nx' = 44
    · subst hq
      obtain ⟨U, hU⟩ : ∃ U, numF 44 44 s' = U := ⟨_, rfl⟩
      obtain ⟨f, rfl⟩ : ∃ f', f = f' + 1 := ⟨f - 1, by have := hf rfl; omega⟩
      have hstep : Hid ((xs ++ (U.1 :: (numsF 44 f U.2.1 U.2.2).1), (numsF 44 f U.2.1 U.2.2).2) = T) := by
        show _ = _
        rw [← HS.out, ← hU]; simp [numsF]
      have hsz : U.2.2.size ≤ s'.size := hU ▸ numF_size 44 44 s'
      have hless : U.2.2.size < s'.size ∨ U.2.1 < 0 := hU ▸ numF_less 44 s'
      have hf1 := hf rfl
      clear HS hf
      obtain ⟨u, n2, s2⟩ := U
      replace hstep : Hid ((xs ++ (u :: (numsF 44 f n2 s2).1), (numsF 44 f n2 s2).2) = T) := hstep
      replace hsz : s2.size ≤ s'.size := hsz
      replace hless : s2.size < s'.size ∨ n2 < 0 := hless
      have hlen := lenOf_own hown
      go_wp2_with (first
        | (go_at_call 206; refine (number_any L 44 44 s' _ _ hs' hU hL1).mono ?_; rintro e w2 ⟨rfl, hL2, hg2⟩; have hown2 := own_grown hown hg2 (fun g hg e => by cases e; omega); have hgr2 := grown_trans hgr hg2; have hw2 := hgr2.size)
        | (at_builtin; refine wpList_append_own _ rfl _ _ 22 rfl w.heap.size 3 i0 (.int .i64 0) 1 8 Tryz.underlying22 hi hz0 hz1 hz2 rfl (by decide) _ _ _ rfl (hown2.alloc _) ⟨_, 0, none⟩ 1 1 [.int .i64 u] rfl rfl (cell_one_new _ _ _) (fun u hu => by simp at hu; subst hu; rfl) (by unfold maxLen; omega) (by omega) (by simp; omega) ?_; intro v' w3 hown' hgrow hnil))
      go_roundw
      case rel =>
        refine ⟨n2, s2, xs ++ [u], f, by simpa using hown', ?_, ?_, ?_, ?_, ?_, ?_⟩
        · exact (hL2.up _).grown hgrow (fun e => by have := (hown2.lt _ e.symm).1; omega)
        · exact grown_own (grown_trans hgr2 (below_grown ((Below.refl _ _).alloc (Nat.le_refl _) _) _)) (hown2.alloc _) hgrow (Nat.le_refl _)
        · show _ = _
          rw [← hstep.out]; simp
        · intro e
          rcases hless with h | h
          · omega
          · omega
        · omega
        · simp; omega
      case measure => rw [lenOf_own hown', hlen]; omega
    · have hTe : T = (xs, nx', s') := by rw [← HS.out]; cases f <;> simp [numsF, hq]
      have bq : (nx' == 44) = false := by simpa using hq
      subst hTe
      go_wp2
      go_ret
      exact ⟨_, rfl, hown, hL1, hgr⟩

end Go.Proofs.YtlehlbgaboifoabGreatDoor

/- The contract of place of package line's reader. -/
namespace Go.Proofs.YtlehlbgaboifoabGreatDoor
open Go.RowKit
set_option linter.unusedSimpArgs false
set_option linter.unusedVariables false

theorem Box.cells5 {w : World} {B : Nat} {t : TypeId} {x0 x1 x2 x3 x4 : Value} (h : Box w B #[x0, x1, x2, x3, x4] t) : w.cell? ⟨B, 0, none⟩ = some x0 ∧ w.cell? ⟨B, 1, none⟩ = some x1 ∧ w.cell? ⟨B, 2, none⟩ = some x2 ∧ w.cell? ⟨B, 3, none⟩ = some x3 ∧ w.cell? ⟨B, 4, none⟩ = some x4 :=
  ⟨h.cell rfl, h.cell rfl, h.cell rfl, h.cell rfl, h.cell rfl⟩

theorem flagF_size (nx : Int) (s : ByteArray) : (flagF nx s).2.2.size ≤ s.size := by
  unfold flagF
  split
  · exact takeF_size nx 33 s
  · exact Nat.le_refl _

/-- A place: pod, node, need, alone. -/
structure PlaceB where
  pod : ByteArray
  node : ByteArray
  cpu : Nat
  mem : Nat
  alone : Bool

/-- What place tells, the sign ahead and the rest behind it. -/
def placeF (nx : Int) (s : ByteArray) : PlaceB × Int × ByteArray :=
  match wordF nx 32 s with
  | (p, n1, s1) => match wordF n1 62 s1 with
    | (n, n2, s2) => match vecF n2 s2 with
      | ((c, m), n3, s3) => match flagF n3 s3 with
        | (a, n4, s4) => (⟨p, n, c, m, a⟩, n4, s4)

set_option maxRecDepth 100000 in
set_option maxHeartbeats 2000000 in
theorem place_any (L : Nat) (nx : Int) (s : ByteArray) (T : PlaceB × Int × ByteArray) (w : World) (hs : s.size ≤ 1000000) (hT : placeF nx s = T) (hL : RBox w L nx s) :
    Calls Tryz.prog 225 #[.pointer (some ⟨L, 0, none⟩)] w fun e w' => e = .returned (.agg #[.string T.1.pod, .string T.1.node, .int .i64 T.1.cpu, .int .i64 T.1.mem, .bool T.1.alone]) ∧ RBox w' L T.2.1 T.2.2 ∧ w.grownBy w' (some L) := by
  unfold placeF at hT
  obtain ⟨U, hU⟩ : ∃ U, wordF nx 32 s = U := ⟨_, rfl⟩
  have hz1 : U.2.2.size ≤ s.size := hU ▸ wordF_size nx 32 s
  rw [hU] at hT
  obtain ⟨p, n1, s1⟩ := U
  replace hz1 : s1.size ≤ s.size := hz1
  simp only at hT
  obtain ⟨U, hV⟩ : ∃ U, wordF n1 62 s1 = U := ⟨_, rfl⟩
  have hz2 : U.2.2.size ≤ s1.size := hV ▸ wordF_size n1 62 s1
  rw [hV] at hT
  obtain ⟨n, n2, s2⟩ := U
  replace hz2 : s2.size ≤ s1.size := hz2
  simp only at hT
  obtain ⟨U, hW⟩ : ∃ U, vecF n2 s2 = U := ⟨_, rfl⟩
  have hz3 : U.2.2.size ≤ s2.size := hW ▸ vecF_size n2 s2
  rw [hW] at hT
  obtain ⟨⟨c, m⟩, n3, s3⟩ := U
  replace hz3 : s3.size ≤ s2.size := hz3
  simp only at hT
  obtain ⟨U, hX⟩ : ∃ U, flagF n3 s3 = U := ⟨_, rfl⟩
  rw [hX] at hT
  obtain ⟨al, n4, s4⟩ := U
  simp only at hT
  subst hT
  show Calls Tryz.prog 225 #[.pointer (some ⟨L, 0, none⟩)] w fun e w' => e = .returned (.agg #[.string p, .string n, .int .i64 c, .int .i64 m, .bool al]) ∧ RBox w' L n4 s4 ∧ w.grownBy w' (some L)
  have hne : w.heap.size ≠ L := by have := hL.lt; omega
  have hL0 : RBox (w.alloc (.cells #[.string ⟨#[]⟩, .string ⟨#[]⟩, .int .i64 0, .int .i64 0, .bool false] 192)) L nx s := hL.up _
  have hB0 : Box (w.alloc (.cells #[.string ⟨#[]⟩, .string ⟨#[]⟩, .int .i64 0, .int .i64 0, .bool false] 192)) w.heap.size #[.string ⟨#[]⟩, .string ⟨#[]⟩, .int .i64 0, .int .i64 0, .bool false] 192 := Box.new w _ _ rfl
  have hg0 : w.grownBy (w.alloc (.cells #[.string ⟨#[]⟩, .string ⟨#[]⟩, .int .i64 0, .int .i64 0, .bool false] 192)) (some L) := below_grown ((Below.refl _ _).alloc (Nat.le_refl _) _) _
  go_enter Tryz.func225, Tryz.ntmps225
  go_wp2_with (first
    | (go_at_call 204; refine (flag_any L n3 s3 _ _ (by omega) hX hL3).mono ?_; rintro e w4 ⟨rfl, hL4, hg4⟩; have hB4 := (((hB0.grown hg1 (by simpa using hne)).grown hg2 (by simpa using hne)).grown hg3 (by simpa using hne)).grown hg4 (by simpa using hne); obtain ⟨x0, x1, x2, x3, x4⟩ := hB4.cells5; have y0 := hB4.frozen 0; have y1 := hB4.frozen 1; have y2 := hB4.frozen 2; have y3 := hB4.frozen 3; have y4 := hB4.frozen 4)
    | (go_at_call 202; refine (vec_any L n2 s2 _ _ (by omega) hW hL2).mono ?_; rintro e w3 ⟨rfl, hL3, hg3⟩)
    | (go_at_call 169; refine (rname_any L n1 62 s1 _ _ (by omega) hV hL1).mono ?_; rintro e w2 ⟨rfl, hL2, hg2⟩)
    | (go_at_call 169; refine (rname_any L nx 32 s _ _ hs hU hL0).mono ?_; rintro e w1 ⟨rfl, hL1, hg1⟩))
  have hB5 : Box (((((w4.setCell ⟨w.heap.size, 0, none⟩ (.string p)).setCell ⟨w.heap.size, 1, none⟩ (.string n)).setCell ⟨w.heap.size, 2, none⟩ (.int .i64 c)).setCell ⟨w.heap.size, 3, none⟩ (.int .i64 m)).setCell ⟨w.heap.size, 4, none⟩ (.bool al)) w.heap.size #[.string p, .string n, .int .i64 c, .int .i64 m, .bool al] 192 := ((((hB4.set 0 _).set 1 _).set 2 _).set 3 _).set 4 _
  obtain ⟨r0, r1, r2, r3, r4⟩ := hB5.cells5
  refine bodyPost_ret (by simp [results, Tryz.results225, go_sem, r0, r1, r2, r3, r4]) rfl ⟨rfl, ?_, ?_⟩
  · exact ((((hL4.other (Ne.symm hne) _ _).other (Ne.symm hne) _ _).other (Ne.symm hne) _ _).other (Ne.symm hne) _ _).other (Ne.symm hne) _ _
  · exact grown_new (grown_new (grown_new (grown_new (grown_new (grown_trans hg0 (grown_trans hg1 (grown_trans hg2 (grown_trans hg3 hg4)))) (Nat.le_refl _) _ _) (Nat.le_refl _) _ _) (Nat.le_refl _) _ _) (Nat.le_refl _) _ _) (Nat.le_refl _) _ _

end Go.Proofs.YtlehlbgaboifoabGreatDoor

/- The contract of places of package line's reader. -/
namespace Go.Proofs.YtlehlbgaboifoabGreatDoor
open Go.RowKit
set_option linter.unusedSimpArgs false
set_option linter.unusedVariables false

theorem infoPlace : (Tryz.prog.info? 192).map (fun i => (i.zero, i.size, i.bytes)) = some (some (.agg #[.string ⟨#[]⟩, .string ⟨#[]⟩, .int .i64 0, .int .i64 0, .bool false]), 5, 56) := by kernel_rfl

theorem wordF_no {nx g : Int} (s : ByteArray) (h : nx ≠ g) : wordF nx g s = (⟨#[]⟩, -3, s) := by
  unfold wordF takeF
  simp [h]

theorem numF_no {nx g : Int} (s : ByteArray) (h : nx ≠ g) : numF nx g s = (0, -3, s) := by
  unfold numF
  rw [wordF_no s h]
  rfl

theorem vecF_no {nx : Int} (s : ByteArray) (h : nx ≠ 58) : vecF nx s = ((0, 0), -3, s) := by
  unfold vecF
  rw [numF_no s h]
  rw [numF_no s (show (-3 : Int) ≠ 44 by decide)]

theorem placeF_size (nx : Int) (s : ByteArray) : (placeF nx s).2.2.size ≤ s.size := by
  unfold placeF
  have h1 := wordF_size nx 32 s
  obtain ⟨U, hU⟩ : ∃ U, wordF nx 32 s = U := ⟨_, rfl⟩
  rw [hU] at h1 ⊢
  obtain ⟨p, n1, s1⟩ := U
  have h2 := wordF_size n1 62 s1
  obtain ⟨U, hV⟩ : ∃ U, wordF n1 62 s1 = U := ⟨_, rfl⟩
  simp only
  rw [hV] at h2 ⊢
  obtain ⟨n, n2, s2⟩ := U
  have h3 := vecF_size n2 s2
  obtain ⟨U, hW⟩ : ∃ U, vecF n2 s2 = U := ⟨_, rfl⟩
  simp only
  rw [hW] at h3 ⊢
  obtain ⟨⟨c, m⟩, n3, s3⟩ := U
  have h4 := flagF_size n3 s3
  obtain ⟨U, hX⟩ : ∃ U, flagF n3 s3 = U := ⟨_, rfl⟩
  simp only
  rw [hX] at h4 ⊢
  obtain ⟨a, n4, s4⟩ := U
  simp only at *
  omega

theorem placeF_less (s : ByteArray) : (placeF 32 s).2.2.size < s.size ∨ (placeF 32 s).2.1 < 0 := by
  have h := wordF_less 32 s
  unfold placeF
  obtain ⟨U, hU⟩ : ∃ U, wordF 32 32 s = U := ⟨_, rfl⟩
  rw [hU] at h ⊢
  obtain ⟨p, n1, s1⟩ := U
  simp only at h ⊢
  rcases h with h | h
  · left
    have h2 := wordF_size n1 62 s1
    obtain ⟨U, hV⟩ : ∃ U, wordF n1 62 s1 = U := ⟨_, rfl⟩
    rw [hV] at h2 ⊢
    obtain ⟨n, n2, s2⟩ := U
    have h3 := vecF_size n2 s2
    obtain ⟨U, hW⟩ : ∃ U, vecF n2 s2 = U := ⟨_, rfl⟩
    simp only
    rw [hW] at h3 ⊢
    obtain ⟨⟨c, m⟩, n3, s3⟩ := U
    have h4 := flagF_size n3 s3
    obtain ⟨U, hX⟩ : ∃ U, flagF n3 s3 = U := ⟨_, rfl⟩
    simp only
    rw [hX] at h4 ⊢
    obtain ⟨a, n4, s4⟩ := U
    simp only at *
    omega
  · right
    rw [wordF_no s1 (by omega : n1 ≠ 62)]
    simp only
    rw [vecF_no s1 (by decide)]
    show (flagF (-3) s1).2.1 < 0
    simp [flagF]

/-- The cells of a place. -/
def placeCells (p : PlaceB) : List Value := [.string p.pod, .string p.node, .int .i64 p.cpu, .int .i64 p.mem, .bool p.alone]

theorem placeCells_len (xs : List PlaceB) : (xs.flatMap placeCells).length = xs.length * 5 := by
  induction xs with
  | nil => rfl
  | cons x xs ih => simp only [List.flatMap_cons, List.length_append, ih, placeCells, List.length_cons, List.length_nil]; omega

theorem place_news (w : World) (u : PlaceB) (t : TypeId) : ∀ j z, (placeCells u)[j]? = some z → (w.alloc (.cells #[.string u.pod, .string u.node, .int .i64 u.cpu, .int .i64 u.mem, .bool u.alone] t)).cell? ((⟨w.heap.size, 0, none⟩ : Addr).add j) = some z := by
  intro j z h
  have hb := Box.new w #[.string u.pod, .string u.node, .int .i64 u.cpu, .int .i64 u.mem, .bool u.alone] t rfl
  have := hb.cell (i := j) (v := z) (by simpa [placeCells] using h)
  unfold Addr.add
  split
  · next h0 => have h0 : j = 0 := h0; subst h0; exact this
  · simpa only [Nat.zero_add] using this

theorem place_oneCell (u : PlaceB) : ∀ z ∈ placeCells u, z.oneCell' = true := by
  intro z h
  simp only [placeCells, List.mem_cons, List.mem_nil_iff, or_false] at h
  rcases h with rfl | rfl | rfl | rfl | rfl <;> rfl

/-- The places that follow, the sign ahead and the rest behind them. -/
def placesF : Nat → Int → ByteArray → List PlaceB × Int × ByteArray
  | 0, nx, s => ([], nx, s)
  | f + 1, nx, s => if nx = 32 then ((placeF nx s).1 :: (placesF f (placeF nx s).2.1 (placeF nx s).2.2).1, (placesF f (placeF nx s).2.1 (placeF nx s).2.2).2) else ([], nx, s)

set_option maxRecDepth 100000 in
set_option maxHeartbeats 2000000 in
theorem rplaces_any (L : Nat) (nx : Int) (s : ByteArray) (T : List PlaceB × Int × ByteArray) (w : World) (hs : s.size ≤ 1000000) (hT : placesF (s.size + 2) nx s = T) (hL : RBox w L nx s) :
    Calls Tryz.prog 208 #[.pointer (some ⟨L, 0, none⟩)] w fun e w' => ∃ v, e = .returned v ∧ w'.ownsRow w.heap.size 192 5 v T.1.length (T.1.flatMap placeCells) ∧ RBox w' L T.2.1 T.2.2 ∧ w.grownBy w' (some L) := by
  obtain ⟨i0, hi, hz0, hz1, hz2⟩ := info_parts infoPlace
  have hLw := hL.lt
  go_enter Tryz.func208, Tryz.ntmps208
  go_wp2
  go_loopw [3] (fun v wr => ∃ (nx' : Int) (s' : ByteArray) (xs : List PlaceB) (f : Nat), wr.ownsRow w.heap.size 192 5 v xs.length (xs.flatMap placeCells) ∧ RBox wr L nx' s' ∧ w.grownBy wr (some L) ∧ Hid ((xs ++ (placesF f nx' s').1, (placesF f nx' s').2) = T) ∧ (nx' = 32 → s'.size + 1 ≤ f) ∧ s'.size ≤ 1000000 ∧ xs.length + f = s.size + 2) (fun v _ => s.size + 3 - lenOf v)
  case atStart => exact ⟨nx, s, [], s.size + 2, World.ownsRow_nil _ _ _ _, hL, below_grown (Below.refl _ _) _, (by show _ = _; rw [← hT]; simp), fun _ => by omega, hs, by simp⟩
  case round =>
    obtain ⟨nx', s', xs, f, hown, hL1, hgr, HS, hf, hs', hxf⟩ := hrel
    obtain ⟨c0, c1⟩ := hL1.cells2
    by_cases hq : nx' = 32
    · subst hq
      obtain ⟨U, hU⟩ : ∃ U, placeF 32 s' = U := ⟨_, rfl⟩
      obtain ⟨f, rfl⟩ : ∃ f', f = f' + 1 := ⟨f - 1, by have := hf rfl; omega⟩
      have hstep : Hid ((xs ++ (U.1 :: (placesF f U.2.1 U.2.2).1), (placesF f U.2.1 U.2.2).2) = T) := by
        show _ = _
        rw [← HS.out, ← hU]; simp [placesF]
      have hsz : U.2.2.size ≤ s'.size := hU ▸ placeF_size 32 s'
      have hless : U.2.2.size < s'.size ∨ U.2.1 < 0 := hU ▸ placeF_less s'
      have hf1 := hf rfl
      clear HS hf
      obtain ⟨u, n2, s2⟩ := U
      replace hstep : Hid ((xs ++ (u :: (placesF f n2 s2).1), (placesF f n2 s2).2) = T) := hstep
      replace hsz : s2.size ≤ s'.size := hsz
      replace hless : s2.size < s'.size ∨ n2 < 0 := hless
      have hlen := lenOf_own hown
      go_wp2_with (first
        | (go_at_call 225; refine (place_any L 32 s' _ _ hs' hU hL1).mono ?_; rintro e w2 ⟨rfl, hL2, hg2⟩; have hown2 := own_grown hown hg2 (fun g hg e => by cases e; omega); have hgr2 := grown_trans hgr hg2; have hw2 := hgr2.size)
        | (at_builtin; refine wpList_append_own _ rfl _ _ 84 rfl w.heap.size 192 i0 (.agg #[.string ⟨#[]⟩, .string ⟨#[]⟩, .int .i64 0, .int .i64 0, .bool false]) 5 56 Tryz.underlying84 hi hz0 hz1 hz2 rfl (by decide) _ _ _ rfl (hown2.alloc _) ⟨_, 0, none⟩ 1 1 (placeCells u) rfl rfl (place_news _ _ _) (place_oneCell u) (by unfold maxLen; omega) (by omega) (by simp; omega) ?_; intro v' w3 hown' hgrow hnil))
      go_roundw
      case rel =>
        refine ⟨n2, s2, xs ++ [u], f, by simpa using hown', ?_, ?_, ?_, ?_, ?_, ?_⟩
        · exact (hL2.up _).grown hgrow (fun e => by have := (hown2.lt _ e.symm).1; omega)
        · exact grown_own (grown_trans hgr2 (below_grown ((Below.refl _ _).alloc (Nat.le_refl _) _) _)) (hown2.alloc _) hgrow (Nat.le_refl _)
        · show _ = _
          rw [← hstep.out]; simp
        · intro e
          rcases hless with h | h
          · omega
          · omega
        · omega
        · simp; omega
      case measure => rw [lenOf_own hown', hlen]; omega
    · have hTe : T = (xs, nx', s') := by rw [← HS.out]; cases f <;> simp [placesF, hq]
      have bq : (nx' == 32) = false := by simpa using hq
      subst hTe
      go_wp2
      go_ret
      exact ⟨_, rfl, hown, hL1, hgr⟩

end Go.Proofs.YtlehlbgaboifoabGreatDoor

/- The contract of node of package line's reader. -/
namespace Go.Proofs.YtlehlbgaboifoabGreatDoor
open Go.RowKit
set_option linter.unusedSimpArgs false
set_option linter.unusedVariables false

theorem town_low {w : World} {base base' : Nat} {t : TypeId} {z : Nat} {v : Value} {n : Nat} {xs : List Value} (h : w.ownsRow base t z v n xs) (hb : base' ≤ base) : w.ownsRow base' t z v n xs := by
  refine ⟨h.1, ?_⟩
  rcases h.2 with h2 | ⟨g, cap, cur, hv, hg, hrest⟩
  · exact .inl h2
  · exact .inr ⟨g, cap, cur, hv, Nat.le_trans hb hg, hrest⟩

theorem own_other {w : World} {base b : Nat} {t : TypeId} {z : Nat} {v : Value} {n : Nat} {xs : List Value} (h : w.ownsRow base t z v n xs) (hb : b < base) (i : Nat) (x : Value) : (w.setCell ⟨b, i, none⟩ x).ownsRow base t z v n xs :=
  own_grown h (grown_set w b i x) (fun g hg e => by cases e; omega)

theorem namesF_size (g : Int) : ∀ (f : Nat) (nx : Int) (s : ByteArray), (namesF g f nx s).2.2.size ≤ s.size
  | 0, nx, s => Nat.le_refl _
  | f + 1, nx, s => by
    unfold namesF
    split
    · exact Nat.le_trans (namesF_size g f _ _) (wordF_size nx g s)
    · exact Nat.le_refl _

theorem tslice_of_own {w : World} {base : Nat} {t : TypeId} {z : Nat} {v : Value} {n : Nat} {xs : List Value} (h : w.ownsRow base t z v n xs) : ∃ a c, v = .slice a n c := by
  rcases h.2 with ⟨rfl, rfl⟩ | ⟨g, cap, cur, rfl, _⟩
  · exact ⟨_, _, rfl⟩
  · exact ⟨_, _, rfl⟩

/-- A node: name, cap, marks, taints, closed. -/
structure NodeB where
  name : ByteArray
  cpu : Nat
  mem : Nat
  marks : List ByteArray
  taints : List ByteArray
  closed : Bool

/-- What node tells, the sign ahead and the rest behind it. -/
def nodeF (nx : Int) (s : ByteArray) : NodeB × Int × ByteArray :=
  match wordF nx 32 s with
  | (p, n1, s1) => match vecF n1 s1 with
    | ((c, m), n2, s2) => match namesF 43 (s2.size + 2) n2 s2 with
      | (ms, n3, s3) => match namesF 126 (s3.size + 2) n3 s3 with
        | (ts, n4, s4) => match flagF n4 s4 with
          | (a, n5, s5) => (⟨p, c, m, ms, ts, a⟩, n5, s5)

set_option maxRecDepth 100000 in
set_option maxHeartbeats 4000000 in
theorem rnode_any (L : Nat) (nx : Int) (s : ByteArray) (T : NodeB × Int × ByteArray) (w : World) (hs : s.size ≤ 1000000) (hT : nodeF nx s = T) (hL : RBox w L nx s) :
    Calls Tryz.prog 168 #[.pointer (some ⟨L, 0, none⟩)] w fun e w' => ∃ v1 v2, e = .returned (.agg #[.string T.1.name, .int .i64 T.1.cpu, .int .i64 T.1.mem, v1, v2, .bool T.1.closed]) ∧ w'.ownsRow w.heap.size 9 1 v1 T.1.marks.length (T.1.marks.map Value.string) ∧ w'.ownsRow w.heap.size 9 1 v2 T.1.taints.length (T.1.taints.map Value.string) ∧ RBox w' L T.2.1 T.2.2 ∧ w.grownBy w' (some L) := by
  unfold nodeF at hT
  obtain ⟨U, hU⟩ : ∃ U, wordF nx 32 s = U := ⟨_, rfl⟩
  have hz1 : U.2.2.size ≤ s.size := hU ▸ wordF_size nx 32 s
  rw [hU] at hT
  obtain ⟨p, n1, s1⟩ := U
  replace hz1 : s1.size ≤ s.size := hz1
  simp only at hT
  obtain ⟨U, hV⟩ : ∃ U, vecF n1 s1 = U := ⟨_, rfl⟩
  have hz2 : U.2.2.size ≤ s1.size := hV ▸ vecF_size n1 s1
  rw [hV] at hT
  obtain ⟨⟨c, m⟩, n2, s2⟩ := U
  replace hz2 : s2.size ≤ s1.size := hz2
  simp only at hT
  obtain ⟨U, hW⟩ : ∃ U, namesF 43 (s2.size + 2) n2 s2 = U := ⟨_, rfl⟩
  have hz3 : U.2.2.size ≤ s2.size := hW ▸ namesF_size 43 (s2.size + 2) n2 s2
  rw [hW] at hT
  obtain ⟨ms, n3, s3⟩ := U
  replace hz3 : s3.size ≤ s2.size := hz3
  simp only at hT
  obtain ⟨U, hX⟩ : ∃ U, namesF 126 (s3.size + 2) n3 s3 = U := ⟨_, rfl⟩
  have hz4 : U.2.2.size ≤ s3.size := hX ▸ namesF_size 126 (s3.size + 2) n3 s3
  rw [hX] at hT
  obtain ⟨ts, n4, s4⟩ := U
  replace hz4 : s4.size ≤ s3.size := hz4
  simp only at hT
  obtain ⟨U, hY⟩ : ∃ U, flagF n4 s4 = U := ⟨_, rfl⟩
  rw [hY] at hT
  obtain ⟨al, n5, s5⟩ := U
  simp only at hT
  subst hT
  show Calls Tryz.prog 168 #[.pointer (some ⟨L, 0, none⟩)] w fun e w' => ∃ v1 v2, e = .returned (.agg #[.string p, .int .i64 c, .int .i64 m, v1, v2, .bool al]) ∧ w'.ownsRow w.heap.size 9 1 v1 ms.length (ms.map Value.string) ∧ w'.ownsRow w.heap.size 9 1 v2 ts.length (ts.map Value.string) ∧ RBox w' L n5 s5 ∧ w.grownBy w' (some L)
  have hLw := hL.lt
  have hne : w.heap.size ≠ L := by omega
  have hL0 : RBox (w.alloc (.cells #[.string ⟨#[]⟩, .int .i64 0, .int .i64 0, .slice none 0 0, .slice none 0 0, .bool false] 86)) L nx s := hL.up _
  have hB0 : Box (w.alloc (.cells #[.string ⟨#[]⟩, .int .i64 0, .int .i64 0, .slice none 0 0, .slice none 0 0, .bool false] 86)) w.heap.size #[.string ⟨#[]⟩, .int .i64 0, .int .i64 0, .slice none 0 0, .slice none 0 0, .bool false] 86 := Box.new w _ _ rfl
  have hg0 : w.grownBy (w.alloc (.cells #[.string ⟨#[]⟩, .int .i64 0, .int .i64 0, .slice none 0 0, .slice none 0 0, .bool false] 86)) (some L) := below_grown ((Below.refl _ _).alloc (Nat.le_refl _) _) _
  have hk : (w.alloc (.cells #[.string ⟨#[]⟩, .int .i64 0, .int .i64 0, .slice none 0 0, .slice none 0 0, .bool false] 86)).heap.size = w.heap.size + 1 := by simp
  go_enter Tryz.func168, Tryz.ntmps168
  go_wp2_with (first
    | (go_at_call 204; refine (flag_any L n4 s4 _ _ (by omega) hY hL4).mono ?_; rintro e w5 ⟨rfl, hL5, hg5⟩; have hB5 := ((((hB0.grown hg1 (by simpa using hne)).grown hg2 (by simpa using hne)).grown hg3 (by simpa using hne)).grown hg4 (by simpa using hne)).grown hg5 (by simpa using hne); obtain ⟨x0, x1, x2, x3, x4, x5⟩ := hB5.cells6; have y0 := hB5.frozen 0; have y1 := hB5.frozen 1; have y2 := hB5.frozen 2; have y3 := hB5.frozen 3; have y4 := hB5.frozen 4; have y5 := hB5.frozen 5)
    | (go_at_call 203; refine (names_any L n3 126 s3 _ _ (by omega) (by omega) hX hL3).mono ?_; rintro e w4 ⟨v2, rfl, hO2, hL4, hg4⟩; obtain ⟨a2, k2, rfl⟩ := tslice_of_own hO2)
    | (go_at_call 203; refine (names_any L n2 43 s2 _ _ (by omega) (by omega) hW hL2).mono ?_; rintro e w3 ⟨v1, rfl, hO1, hL3, hg3⟩; obtain ⟨a1, k1, rfl⟩ := tslice_of_own hO1)
    | (go_at_call 202; refine (vec_any L n1 s1 _ _ (by omega) hV hL1).mono ?_; rintro e w2 ⟨rfl, hL2, hg2⟩)
    | (go_at_call 169; refine (rname_any L nx 32 s _ _ hs hU hL0).mono ?_; rintro e w1 ⟨rfl, hL1, hg1⟩))
  have hs2 : w.heap.size + 1 ≤ w2.heap.size := by have := hg1.size; have := hg2.size; omega
  have hs3 : w.heap.size + 1 ≤ w3.heap.size := by have := hg3.size; omega
  have hO1' : w5.ownsRow (w.heap.size + 1) 9 1 (.slice a1 ms.length k1) ms.length (ms.map Value.string) := own_grown (own_grown (town_low hO1 hs2) hg4 (fun g hg e => by cases e; omega)) hg5 (fun g hg e => by cases e; omega)
  have hO2' : w5.ownsRow (w.heap.size + 1) 9 1 (.slice a2 ts.length k2) ts.length (ts.map Value.string) := own_grown (town_low hO2 hs3) hg5 (fun g hg e => by cases e; omega)
  have hB6 : Box ((((((w5.setCell ⟨w.heap.size, 0, none⟩ (.string p)).setCell ⟨w.heap.size, 1, none⟩ (.int .i64 c)).setCell ⟨w.heap.size, 2, none⟩ (.int .i64 m)).setCell ⟨w.heap.size, 3, none⟩ (.slice a1 ms.length k1)).setCell ⟨w.heap.size, 4, none⟩ (.slice a2 ts.length k2)).setCell ⟨w.heap.size, 5, none⟩ (.bool al)) w.heap.size #[.string p, .int .i64 c, .int .i64 m, .slice a1 ms.length k1, .slice a2 ts.length k2, .bool al] 86 := (((((hB5.set 0 _).set 1 _).set 2 _).set 3 _).set 4 _).set 5 _
  obtain ⟨r0, r1, r2, r3, r4, r5⟩ := hB6.cells6
  refine bodyPost_ret (by simp [results, Tryz.results168, go_sem, r0, r1, r2, r3, r4, r5]) rfl ⟨.slice a1 ms.length k1, .slice a2 ts.length k2, rfl, ?_, ?_, ?_, ?_⟩
  · exact town_low (own_other (own_other (own_other (own_other (own_other (own_other hO1' (Nat.lt_succ_self _) _ _) (Nat.lt_succ_self _) _ _) (Nat.lt_succ_self _) _ _) (Nat.lt_succ_self _) _ _) (Nat.lt_succ_self _) _ _) (Nat.lt_succ_self _) _ _) (Nat.le_succ _)
  · exact town_low (own_other (own_other (own_other (own_other (own_other (own_other hO2' (Nat.lt_succ_self _) _ _) (Nat.lt_succ_self _) _ _) (Nat.lt_succ_self _) _ _) (Nat.lt_succ_self _) _ _) (Nat.lt_succ_self _) _ _) (Nat.lt_succ_self _) _ _) (Nat.le_succ _)
  · exact ((((((hL5.other (Ne.symm hne) _ _).other (Ne.symm hne) _ _).other (Ne.symm hne) _ _).other (Ne.symm hne) _ _).other (Ne.symm hne) _ _).other (Ne.symm hne) _ _)
  · exact (grown_new (grown_new (grown_new (grown_new (grown_new (grown_new (grown_trans hg0 (grown_trans hg1 (grown_trans hg2 (grown_trans hg3 (grown_trans hg4 hg5))))) (Nat.le_refl _) _ _) (Nat.le_refl _) _ _) (Nat.le_refl _) _ _) (Nat.le_refl _) _ _) (Nat.le_refl _) _ _) (Nat.le_refl _) _ _)

end Go.Proofs.YtlehlbgaboifoabGreatDoor

/- The contract of gang of package line's reader. -/
namespace Go.Proofs.YtlehlbgaboifoabGreatDoor
open Go.RowKit
set_option linter.unusedSimpArgs false
set_option linter.unusedVariables false

theorem grown_below {w w' : World} {L B : Nat} (h : w.grownBy w' (some L)) (hL : B ≤ L) (hw : B ≤ w.heap.size) : Below B w w' :=
  ⟨h.os, h.tape, h.output, h.size, fun k hk => h.block k (Nat.lt_of_lt_of_le hk hw) (fun e => by cases e; omega)⟩

theorem peered_is (k : Int) (b : Bool) (h : (decide (k = 3) || decide (k = 7)) = b) (w : World) :
    Calls Tryz.prog 117 #[.int .i64 k] w fun e w' => e = .returned (.bool b) ∧ w' = w := by
  subst h
  exact peered_all k w

/-- The block of a record of a gang. -/
abbrev GBox (w : World) (R : Nat) (k : Int) (g : Nat) (pv qv : Value) : Prop := Box w R #[.int .i64 k, .int .i64 g, pv, qv, .string ⟨#[]⟩, .int .i64 0, .int .i64 0, .slice none 0 0, .slice none 0 0, .bool false] 88

theorem GBox.cells {w : World} {R : Nat} {k : Int} {g : Nat} {pv qv : Value} (h : GBox w R k g pv qv) : w.cell? ⟨R, 0, none⟩ = some (.int .i64 k) ∧ w.cell? ⟨R, 1, none⟩ = some (.int .i64 g) ∧ w.cell? ⟨R, 2, none⟩ = some pv ∧ w.cell? ⟨R, 3, none⟩ = some qv := ⟨h.cell rfl, h.cell rfl, h.cell rfl, h.cell rfl⟩

set_option maxRecDepth 100000 in
set_option maxHeartbeats 4000000 in
theorem gang_plain (L R B : Nat) (k nx : Int) (s : ByteArray) (T : Nat × Int × ByteArray) (w : World) (hs : s.size ≤ 1000000) (hT : numF nx 32 s = T) (hk3 : k ≠ 3) (hk7 : k ≠ 7) (hne : R ≠ L) (hBL : B ≤ L) (hBR : B ≤ R) (hL : RBox w L nx s) (hR : GBox w R k 0 (.slice none 0 0) (.slice none 0 0)) :
    Calls Tryz.prog 170 #[.pointer (some ⟨L, 0, none⟩), .pointer (some ⟨R, 0, none⟩)] w fun e w' => e = .returned (.tuple #[]) ∧ GBox w' R k T.1 (.slice none 0 0) (.slice none 0 0) ∧ RBox w' L T.2.1 T.2.2 ∧ Below B w w' := by
  obtain ⟨g, n1, s1⟩ := T
  have hLw := hL.lt
  have b3 : (k == 3) = false := by simpa using hk3
  have hpe : (decide (k = 3) || decide (k = 7)) = false := by simp [hk3, hk7]
  go_enter Tryz.func170, Tryz.ntmps170
  go_wp2_with (first
    | (go_at_call 117; refine (peered_all _ _).mono ?_; rw [hpe]; rintro e w3 ⟨rfl, rfl⟩)
    | (go_at_call 206; refine (number_any L nx 32 s _ _ hs hT hL).mono ?_; rintro e w1 ⟨rfl, hL1, hg1⟩; have hR1 := Box.grown hR hg1 (by simpa using hne); obtain ⟨x0, x1, x2, x3⟩ := GBox.cells hR1; have y1 := hR1.frozen 1; have hR2 : GBox (w1.setCell ⟨R, 1, none⟩ (.int .i64 g)) R k g (.slice none 0 0) (.slice none 0 0) := hR1.set 1 _; obtain ⟨z0, z1, z2, z3⟩ := GBox.cells hR2; have hL2 := hL1.other (Ne.symm hne) 1 (.int .i64 g)))
  go_end0
  exact ⟨rfl, hR2, hL2, (grown_below hg1 hBL (by omega)).setCell (p := ⟨R, 1, none⟩) hBR _⟩

set_option maxRecDepth 100000 in
set_option maxHeartbeats 4000000 in
theorem gang_seven (L R B : Nat) (nx : Int) (s : ByteArray) (T : Nat × Int × ByteArray) (S : List Nat × Int × ByteArray) (w : World) (hs : s.size ≤ 1000000) (hT : numF nx 32 s = T) (hP : peersF T.2.1 T.2.2 = S) (hne : R ≠ L) (hBL : B ≤ L) (hBR : B ≤ R) (hL : RBox w L nx s) (hR : GBox w R 7 0 (.slice none 0 0) (.slice none 0 0)) :
    Calls Tryz.prog 170 #[.pointer (some ⟨L, 0, none⟩), .pointer (some ⟨R, 0, none⟩)] w fun e w' => e = .returned (.tuple #[]) ∧ ∃ pv, GBox w' R 7 T.1 pv (.slice none 0 0) ∧ w'.ownsRow w.heap.size 3 1 pv S.1.length (S.1.map natV) ∧ RBox w' L S.2.1 S.2.2 ∧ Below B w w' := by
  obtain ⟨g, n1, s1⟩ := T
  have hz1 : s1.size ≤ s.size := by have := numF_size nx 32 s; rw [hT] at this; exact this
  have hLw := hL.lt
  have hRw := hR.lt
  have hpe : (decide ((7 : Int) = 3) || decide ((7 : Int) = 7)) = true := by decide
  obtain ⟨ps, n2, s2⟩ := S
  replace hP : peersF n1 s1 = (ps, n2, s2) := hP
  go_enter Tryz.func170, Tryz.ntmps170
  go_wp2_with (first
    | (go_at_call 117; refine (peered_is _ true (by decide) _).mono ?_; rintro e w9 ⟨rfl, rfl⟩)
    | (go_at_call 207; refine (peers_any L n1 s1 _ _ (by omega) hP hL2).mono ?_; rintro e w3 ⟨pv, rfl, hO3, hL3, hg3⟩; obtain ⟨pa, pc, rfl⟩ := tslice_of_own hO3; have hR3 := Box.grown hR2 hg3 (by simpa using hne); obtain ⟨u0, u1, u2, u3⟩ := GBox.cells hR3; have y2 := hR3.frozen 2; have hR4 : GBox (w3.setCell ⟨R, 2, none⟩ (.slice pa ps.length pc)) R 7 g (.slice pa ps.length pc) (.slice none 0 0) := hR3.set 2 _; obtain ⟨v0, v1, v2, v3⟩ := GBox.cells hR4; have hL4 := hL3.other (Ne.symm hne) 2 (.slice pa ps.length pc); have hB4 := (hB2.trans (grown_below hg3 hBL (by have := hg1.size; omega))).setCell (p := ⟨R, 2, none⟩) hBR (.slice pa ps.length pc); have hO4 := own_other (town_low hO3 (by have := hg1.size; omega : w.heap.size ≤ _)) (by omega : R < w.heap.size) 2 (.slice pa ps.length pc); have hq4 : (w3.setCell ⟨R, 2, none⟩ (.slice pa ps.length pc)).heap.size = w3.heap.size := by simp)
    | (go_at_call 206; refine (number_any L nx 32 s _ _ hs hT hL).mono ?_; rintro e w1 ⟨rfl, hL1, hg1⟩; have hR1 := Box.grown hR hg1 (by simpa using hne); obtain ⟨x0, x1, x2, x3⟩ := GBox.cells hR1; have y1 := hR1.frozen 1; have hR2 : GBox (w1.setCell ⟨R, 1, none⟩ (.int .i64 g)) R 7 g (.slice none 0 0) (.slice none 0 0) := hR1.set 1 _; obtain ⟨z0, z1, z2, z3⟩ := GBox.cells hR2; have hL2 := hL1.other (Ne.symm hne) 1 (.int .i64 g); have hB2 := (grown_below hg1 hBL (by omega)).setCell (p := ⟨R, 1, none⟩) hBR (.int .i64 g); have hq2 : (w1.setCell ⟨R, 1, none⟩ (.int .i64 g)).heap.size = w1.heap.size := by simp))
  go_end0
  exact ⟨rfl, .slice pa ps.length pc, hR4, hO4, hL4, hB4⟩

theorem numsF_size (g : Int) : ∀ (f : Nat) (nx : Int) (s : ByteArray), (numsF g f nx s).2.2.size ≤ s.size
  | 0, nx, s => Nat.le_refl _
  | f + 1, nx, s => by
    unfold numsF
    split
    · exact Nat.le_trans (numsF_size g f _ _) (numF_size nx g s)
    · exact Nat.le_refl _

theorem peersF_size (nx : Int) (s : ByteArray) : (peersF nx s).2.2.size ≤ s.size := Nat.le_trans (numsF_size 44 _ _ _) (numF_size nx 32 s)

set_option maxRecDepth 100000 in
set_option maxHeartbeats 4000000 in
theorem gang_three (L R B : Nat) (nx : Int) (s : ByteArray) (T : Nat × Int × ByteArray) (S : List Nat × Int × ByteArray) (V : List PlaceB × Int × ByteArray) (w : World) (hs : s.size ≤ 1000000) (hT : numF nx 32 s = T) (hP : peersF T.2.1 T.2.2 = S) (hQ : placesF (S.2.2.size + 2) S.2.1 S.2.2 = V) (hne : R ≠ L) (hBL : B ≤ L) (hBR : B ≤ R) (hL : RBox w L nx s) (hR : GBox w R 3 0 (.slice none 0 0) (.slice none 0 0)) :
    Calls Tryz.prog 170 #[.pointer (some ⟨L, 0, none⟩), .pointer (some ⟨R, 0, none⟩)] w fun e w' => e = .returned (.tuple #[]) ∧ ∃ pv qv, GBox w' R 3 T.1 pv qv ∧ w'.ownsRow w.heap.size 3 1 pv S.1.length (S.1.map natV) ∧ w'.ownsRow w.heap.size 192 5 qv V.1.length (V.1.flatMap placeCells) ∧ RBox w' L V.2.1 V.2.2 ∧ Below B w w' := by
  obtain ⟨g, n1, s1⟩ := T
  have hz1 : s1.size ≤ s.size := by have := numF_size nx 32 s; rw [hT] at this; exact this
  have hLw := hL.lt
  have hRw := hR.lt
  have hpe : (decide ((3 : Int) = 3) || decide ((3 : Int) = 7)) = true := by decide
  have hz2 : S.2.2.size ≤ s1.size := hP ▸ peersF_size n1 s1
  obtain ⟨ps, n2, s2⟩ := S
  replace hz2 : s2.size ≤ s1.size := hz2
  replace hP : peersF n1 s1 = (ps, n2, s2) := hP
  obtain ⟨qs, n3, s3⟩ := V
  replace hQ : placesF (s2.size + 2) n2 s2 = (qs, n3, s3) := hQ
  go_enter Tryz.func170, Tryz.ntmps170
  go_wp2_with (first
    | (go_at_call 117; refine (peered_is _ true (by decide) _).mono ?_; rintro e w9 ⟨rfl, rfl⟩)
    | (go_at_call 208; refine (rplaces_any L n2 s2 _ _ (by omega) hQ hL4).mono ?_; rintro e w5 ⟨qv, rfl, hO5, hL5, hg5⟩; obtain ⟨qa, qc, rfl⟩ := tslice_of_own hO5; have hR5 := Box.grown hR4 hg5 (by simpa using hne); obtain ⟨t0, t1, t2, t3⟩ := GBox.cells hR5; have y3 := hR5.frozen 3)
    | (go_at_call 207; refine (peers_any L n1 s1 _ _ (by omega) hP hL2).mono ?_; rintro e w3 ⟨pv, rfl, hO3, hL3, hg3⟩; obtain ⟨pa, pc, rfl⟩ := tslice_of_own hO3; have hR3 := Box.grown hR2 hg3 (by simpa using hne); obtain ⟨u0, u1, u2, u3⟩ := GBox.cells hR3; have y2 := hR3.frozen 2; have hR4 : GBox (w3.setCell ⟨R, 2, none⟩ (.slice pa ps.length pc)) R 3 g (.slice pa ps.length pc) (.slice none 0 0) := hR3.set 2 _; obtain ⟨v0, v1, v2, v3⟩ := GBox.cells hR4; have hL4 := hL3.other (Ne.symm hne) 2 (.slice pa ps.length pc); have hB4 := (hB2.trans (grown_below hg3 hBL (by have := hg1.size; omega))).setCell (p := ⟨R, 2, none⟩) hBR (.slice pa ps.length pc); have hO4 := own_other (town_low hO3 (by have := hg1.size; omega : w.heap.size ≤ _)) (by omega : R < w.heap.size) 2 (.slice pa ps.length pc); have hq4 : (w3.setCell ⟨R, 2, none⟩ (.slice pa ps.length pc)).heap.size = w3.heap.size := by simp)
    | (go_at_call 206; refine (number_any L nx 32 s _ _ hs hT hL).mono ?_; rintro e w1 ⟨rfl, hL1, hg1⟩; have hR1 := Box.grown hR hg1 (by simpa using hne); obtain ⟨x0, x1, x2, x3⟩ := GBox.cells hR1; have y1 := hR1.frozen 1; have hR2 : GBox (w1.setCell ⟨R, 1, none⟩ (.int .i64 g)) R 3 g (.slice none 0 0) (.slice none 0 0) := hR1.set 1 _; obtain ⟨z0, z1, z2, z3⟩ := GBox.cells hR2; have hL2 := hL1.other (Ne.symm hne) 1 (.int .i64 g); have hB2 := (grown_below hg1 hBL (by omega)).setCell (p := ⟨R, 1, none⟩) hBR (.int .i64 g); have hq2 : (w1.setCell ⟨R, 1, none⟩ (.int .i64 g)).heap.size = w1.heap.size := by simp))
  go_end0
  have hx3 : w.heap.size ≤ w3.heap.size := by have := hg1.size; have := hg3.size; omega
  have hR6 : GBox (w5.setCell ⟨R, 3, none⟩ (.slice qa qs.length qc)) R 3 g (.slice pa ps.length pc) (.slice qa qs.length qc) := hR5.set 3 _
  refine ⟨rfl, .slice pa ps.length pc, .slice qa qs.length qc, hR6, ?_, ?_, ?_, ?_⟩
  · exact own_other (own_grown hO4 hg5 (fun g hg e => by cases e; omega)) hRw 3 _
  · exact own_other (town_low hO5 (by omega)) hRw 3 _
  · exact hL5.other (Ne.symm hne) 3 _
  · exact (hB4.trans (grown_below hg5 hBL (by omega))).setCell (p := ⟨R, 3, none⟩) hBR _

end Go.Proofs.YtlehlbgaboifoabGreatDoor

/- The contract of copyCheck of strings.Builder, where the builder lies in a writer. -/
namespace Go.Proofs.YtlehlbgaboifoabGreatDoor
open Go.RowKit
set_option linter.unusedSimpArgs false
set_option linter.unusedVariables false


/-- All but block b and rows of bytes is as it was. -/
structure Soft (b : Nat) (w w' : World) : Prop where
  os : w'.os = w.os
  tape : w'.tape = w.tape
  output : w'.output = w.output
  size : w.heap.size ≤ w'.heap.size
  block : ∀ k, k < w.heap.size → k ≠ b → (∀ cur fz, w.heap[k]? ≠ some (.cells cur 5 fz)) → w'.heap[k]? = w.heap[k]?

theorem Soft.refl (b : Nat) (w : World) : Soft b w w := ⟨rfl, rfl, rfl, Nat.le_refl _, fun _ _ _ _ => rfl⟩
theorem Soft.trans {b : Nat} {w w1 w2 : World} (h : Soft b w w1) (h2 : Soft b w1 w2) : Soft b w w2 :=
  ⟨h2.os.trans h.os, h2.tape.trans h.tape, h2.output.trans h.output, Nat.le_trans h.size h2.size, fun k hk hb hn => by
    have e := h.block k hk hb hn
    rw [h2.block k (Nat.lt_of_lt_of_le hk h.size) hb (by rw [e]; exact hn), e]⟩
theorem Soft.of_below {b : Nat} {w w' : World} (h : Below w.heap.size w w') : Soft b w w' := ⟨h.os, h.tape, h.output, h.size, fun k hk _ _ => h.block k hk⟩
theorem Soft.set (b i : Nat) (v : Value) (w : World) : Soft b w (w.setCell ⟨b, i, none⟩ v) :=
  ⟨rfl, rfl, rfl, by simp [World.setCell], fun k _ hk _ => Below.heap_setCell _ _ _ _ (fun e => hk (by simp [e]))⟩
theorem Soft.grown {b B n : Nat} {v : Value} {xs : List Value} {w w' : World} (hg : w.grownBy w' v.ownBlock) (ho : w.ownsRow B 5 1 v n xs) : Soft b w w' :=
  ⟨hg.os, hg.tape, hg.output, hg.size, fun k hk _ hn => hg.block k hk (by
    rcases ho.2 with ⟨rfl, _⟩ | ⟨g, cap, cur, rfl, _, hh, _⟩
    · simp [Value.ownBlock]
    · intro e
      have : k = g := by simpa [Value.ownBlock] using e
      subst this
      exact hn _ _ hh)⟩
theorem Soft.box {b k : Nat} {w w' : World} {cs : Array Value} {t : TypeId} (h : Soft b w w') (hk : Box w k cs t) (ht : t ≠ 5) (hb : k ≠ b) : Box w' k cs t := by
  unfold Box at hk ⊢
  rw [h.block k (Box.lt hk) hb (fun cur fz e => by rw [hk] at e; simp at e; exact ht e.2.1), hk]

theorem sizeBld : (Tryz.prog.info? 227).map (·.size) = some 2 := by kernel_rfl

set_option maxRecDepth 100000 in
theorem copyCheck_used (b : Nat) (w : World) (h0 : w.cell? ⟨b, 0, none⟩ = some (.pointer (some ⟨b, 0, none⟩))) :
    Calls Tryz.prog 216 #[.pointer (some ⟨b, 0, none⟩)] w fun e w' => e = .returned (.tuple #[]) ∧ w' = w := by
  obtain ⟨j, hj, _⟩ := Option.map_eq_some_iff.1 sizeBld
  go_enter Tryz.func216, Tryz.ntmps216
  go_wp2
  rw [Lib.run_neq_ptr_same w _ Tryz.underlying225 hj]
  go_wp2
  go_end0
  exact ⟨rfl, rfl⟩

set_option maxRecDepth 100000 in
theorem copyCheck_fresh (b : Nat) (w : World) (h0 : w.cell? ⟨b, 0, none⟩ = some (.pointer none)) (hsh : w.shape? b = some (229, 2)) (hfz : w.frozen? ⟨b, 0, none⟩ = false) :
    Calls Tryz.prog 216 #[.pointer (some ⟨b, 0, none⟩)] w fun e w' => e = .returned (.tuple #[]) ∧ w' = w.setCell ⟨b, 0, none⟩ (.pointer (some ⟨b, 0, none⟩)) := by
  obtain ⟨j, hj, hjs⟩ := Option.map_eq_some_iff.1 sizeBld
  have lies : liesAt Tryz.prog Tryz.prog.depth 229 (2 / Tryz.prog.cellsOf 229) 0 227 1 = true := by kernel_rfl
  go_enter Tryz.func216, Tryz.ntmps216
  go_wp2
  rw [Lib.run_to_unsafe w ⟨b, 0, none⟩ Tryz.underlying225 Tryz.underlying266 hj (by rw [hjs]; decide) hsh (Nat.zero_lt_succ 1)]
  simp only [Result.andThen]
  rw [Oper.upon_value]
  go_wp2
  rw [run_callFunc_extern Tryz.func227 (by kernel_rfl) (by kernel_rfl) (by kernel_rfl) (e := Extern.AbiNoEscape.same) (by kernel_rfl)]
  rw [Lib.run_noEscape]
  simp only [Result.andThen]
  rw [Oper.upon_value]
  go_wp2
  rw [Lib.run_from_unsafe w ⟨b, 0, none⟩ Tryz.underlying266 Tryz.underlying225 hj hsh lies]
  simp only [Result.andThen]
  rw [Oper.upon_value]
  go_wp2
  go_end0
  exact ⟨rfl, rfl⟩

/-- A builder in a writer's block, that holds these bytes. -/
abbrev InW (B b : Nat) (bs : List Value) (w : World) : Prop := Lib.IsBuilder 229 5 B b bs w
abbrev AtW (B b : Nat) (bs : List Value) (w : World) : Prop := Lib.BuilderAt 229 5 B b (.pointer (some ⟨b, 0, none⟩)) bs w

theorem copyCheck_any (B b : Nat) (bs : List Value) (w : World) (h : InW B b bs w) :
    Calls Tryz.prog 216 #[.pointer (some ⟨b, 0, none⟩)] w fun e w' => e = .returned (.tuple #[]) ∧ AtW B b bs w' ∧ Below B w w' ∧ Soft b w w' := by
  cases h with
  | inl h => exact (copyCheck_fresh b w h.cell0 h.shape h.frozen0).mono fun e w' k => ⟨k.1, k.2 ▸ h.used _, k.2 ▸ (Below.refl B w).setCell (p := ⟨b, 0, none⟩) h.1 _, k.2 ▸ Soft.set b 0 _ w⟩
  | inr h => exact (copyCheck_used b w h.cell0).mono fun e w' k => ⟨k.1, k.2 ▸ h, k.2 ▸ Below.refl B _, k.2 ▸ Soft.refl b _⟩

theorem infoByte : (Tryz.prog.info? 5).map (fun i => (i.zero, i.size, i.bytes)) = some (some (.int .u8 0), 1, 1) := by kernel_rfl

set_option maxRecDepth 100000 in
set_option maxHeartbeats 2000000 in
theorem writeString_any (B b : Nat) (bs : List Value) (s : ByteArray) (w : World) (h : InW B b bs w) (hlen : bs.length + s.size ≤ 1000000000) (hBw : B ≤ w.heap.size) :
    Calls Tryz.prog 188 #[.pointer (some ⟨b, 0, none⟩), .string s] w fun e w' => e = .returned (.tuple #[.int .i64 s.size, .nilIface]) ∧ AtW B b (bs ++ Lib.strCells s) w' ∧ Below B w w' ∧ Soft b w w' := by
  obtain ⟨i0, hi, hz0, hz1, hz2⟩ := info_parts infoByte
  go_enter Tryz.func188, Tryz.ntmps188
  go_wp2_with (first
    | (at_builtin; refine Lib.wpList_append_own_string _ rfl _ _ 55 9 rfl B 5 i0 Tryz.underlying55 Tryz.underlying9 hi hz0 hz1 hz2 _ _ _ rfl hown s rfl (by unfold maxLen; omega) (by omega) (by have := hb1.size; omega) ?_
       intro v2 w2 hown2 hg2 hnil
       have hX2 := hX.grown hg2 (fun e => hne e.symm)
       obtain ⟨d0, d1⟩ := hX2.cells2
       have f1 := hX2.frozen 1
       obtain ⟨ao, n', cap, rfl⟩ : ∃ ao n' cap, v2 = .slice ao n' cap := by
         rcases hown2.2 with ⟨hv, _⟩ | ⟨g, cap, cur, hv, _⟩
         · exact ⟨_, _, _, hv⟩
         · exact ⟨_, _, _, hv⟩)
    | (go_at_call 216; refine (copyCheck_any B b bs _ h).mono ?_
       rintro e w1 ⟨rfl, ⟨hB, v, hX', hown, hne⟩, hb1, hf1⟩
       have hX : Box w1 b #[.pointer (some ⟨b, 0, none⟩), v] 229 := hX'
       obtain ⟨c0, c1⟩ := hX.cells2))
  go_ret2
  refine ⟨rfl, ?_, (hb1.grown hg2 (by have := hb1.size; omega) (fun k hk => (hown.lt k hk).1)).setCell (p := ⟨b, 1, none⟩) hB _, (hf1.trans (Soft.grown hg2 hown)).trans (Soft.set b 1 _ _)⟩
  exact Lib.BuilderAt.put (T := 229) (e := 5) hB hX2 (bs' := bs ++ Lib.strCells s) (by simpa [Lib.strCells_length] using hown2) (by decide)

end Go.Proofs.YtlehlbgaboifoabGreatDoor

/- The contracts of AppendRune and WriteRune for signs, and of word of package line's writer. -/
namespace Go.Proofs.YtlehlbgaboifoabGreatDoor
open Go.RowKit
set_option linter.unusedSimpArgs false
set_option linter.unusedVariables false

/-- A rune of one byte. -/
def Small (r : Int) : Prop := IntKind.u32.wrap r = r ∧ IntKind.u8.wrap r = r ∧ r ≤ 127

set_option maxRecDepth 100000 in
set_option maxHeartbeats 2000000 in
theorem appendRune_small (B n : Nat) (v : Value) (xs : List Value) (r : Int) (w : World) (hr : Small r) (hown : w.ownsRow B 5 1 v n xs) (hn : n ≤ 1000000000) (hBw : B ≤ w.heap.size) :
    Calls Tryz.prog 228 #[v, .int .i32 r] w fun e w' => ∃ v', e = .returned v' ∧ w'.ownsRow B 5 1 v' (n + 1) (xs ++ [.int .u8 r]) ∧ (w.alloc (.cells #[.int .u8 r] 5)).grownBy w' v.ownBlock := by
  obtain ⟨i0, hi, hz0, hz1, hz2⟩ := info_parts infoByte
  obtain ⟨h1, h2, h3⟩ := hr
  obtain ⟨a, c, rfl⟩ := tslice_of_own hown
  go_enter Tryz.func228, Tryz.ntmps228
  go_wp2_with (first
    | (at_builtin; refine wpList_append_own _ rfl _ _ 55 rfl B 5 i0 (.int .u8 0) 1 1 Tryz.underlying55 hi hz0 hz1 hz2 rfl (by decide) _ _ _ rfl (hown.alloc _) ⟨_, 0, none⟩ 1 1 [.int .u8 r] rfl rfl (cell_one_new _ _ _) (fun u hu => by simp at hu; subst hu; rfl) (by unfold maxLen; omega) (by omega) (by simp; omega) ?_
       intro v2 w2 hown2 hg2 hnil
       obtain ⟨ao, cap, rfl⟩ := tslice_of_own hown2))
  go_ret
  exact ⟨_, rfl, hown2, hg2⟩

set_option maxRecDepth 100000 in
set_option maxHeartbeats 2000000 in
theorem writeRune_small (B b : Nat) (bs : List Value) (r : Int) (w : World) (hr : Small r) (h : InW B b bs w) (hlen : bs.length ≤ 1000000000) (hBw : B ≤ w.heap.size) :
    Calls Tryz.prog 220 #[.pointer (some ⟨b, 0, none⟩), .int .i32 r] w fun e w' => (∃ v, e = .returned v) ∧ AtW B b (bs ++ [.int .u8 r]) w' ∧ Below B w w' ∧ Soft b w w' := by
  go_enter Tryz.func220, Tryz.ntmps220
  go_wp2_with (first
    | (go_at_call 228; refine (appendRune_small B bs.length _ bs r _ hr hown hlen (by have := hb1.size; omega)).mono ?_
       rintro e w2 ⟨v2, rfl, hown2, hg2⟩
       have hX2 := (hX.up (.cells #[.int .u8 r] 5)).grown hg2 (fun e => hne e.symm)
       obtain ⟨d0, d1⟩ := hX2.cells2
       have f1 := hX2.frozen 1
       obtain ⟨ao, cap, rfl⟩ := tslice_of_own hown2)
    | (go_at_call 216; refine (copyCheck_any B b bs _ h).mono ?_
       rintro e w1 ⟨rfl, ⟨hB, v, hX', hown, hne⟩, hb1, hf1⟩
       obtain ⟨ao1, cap1, rfl⟩ := tslice_of_own hown
       have hX : Box w1 b #[.pointer (some ⟨b, 0, none⟩), .slice ao1 bs.length cap1] 229 := hX'
       obtain ⟨c0, c1⟩ := hX.cells2))
  go_ret2
  refine ⟨⟨_, rfl⟩, ?_, ((hb1.alloc (by have := hb1.size; omega) _).grown hg2 (by have := hb1.size; simp; omega) (fun k hk => (hown.lt k hk).1)).setCell (p := ⟨b, 1, none⟩) hB _, ((hf1.trans (Soft.of_below (up (Below.refl _ _) _))).trans (Soft.grown hg2 (hown.alloc _))).trans (Soft.set b 1 _ _)⟩
  exact Lib.BuilderAt.put (T := 229) (e := 5) hB hX2 (bs' := bs ++ [.int .u8 r]) (by simpa using hown2) (by decide)

set_option maxRecDepth 100000 in
set_option maxHeartbeats 2000000 in
theorem word_put (B b : Nat) (bs : List Value) (r : Int) (s : ByteArray) (w : World) (hr : Small r) (h : InW B b bs w) (hlen : bs.length + s.size + 1 ≤ 1000000000) (hBw : B ≤ w.heap.size) :
    Calls Tryz.prog 191 #[.pointer (some ⟨b, 0, none⟩), .int .i32 r, .string s] w fun e w' => e = .returned (.tuple #[]) ∧ AtW B b (bs ++ [.int .u8 r] ++ Lib.strCells s) w' ∧ Below B w w' ∧ Soft b w w' := by
  go_enter Tryz.func191, Tryz.ntmps191
  go_wp2_with (first
    | (go_at_call 188; refine (writeString_any B b (bs ++ [.int .u8 r]) s _ (.inr h1) (by simp; omega) (by have := hb1.size; omega)).mono ?_
       rintro e w2 ⟨rfl, h2, hb2, hf2⟩)
    | (go_at_call 220; refine (writeRune_small B b bs r _ hr h (by omega) hBw).mono ?_
       rintro e w1 ⟨⟨v, rfl⟩, h1, hb1, hf1⟩))
  go_end0
  exact ⟨rfl, h2, hb1.trans hb2, hf1.trans hf2⟩

end Go.Proofs.YtlehlbgaboifoabGreatDoor

/- The contract of String of strings.Builder, where the builder lies in a writer. -/
namespace Go.Proofs.YtlehlbgaboifoabGreatDoor
open Go.RowKit
set_option linter.unusedSimpArgs false
set_option linter.unusedVariables false

theorem cellsByte : Tryz.prog.cellsOf 5 = 1 := by kernel_rfl

set_option maxRecDepth 100000 in
set_option maxHeartbeats 2000000 in
theorem string_at (B b : Nat) (l : List UInt8) (w : World) (h : AtW B b (Lib.byteCells l) w) (h0 : l ≠ []) :
    Calls Tryz.prog 195 #[.pointer (some ⟨b, 0, none⟩)] w fun e w' => e = .returned (.string ⟨l.toArray⟩) ∧ Below B w w' := by
  obtain ⟨hB, v, hX', hown, hne⟩ := h
  have hX : Box w b #[.pointer (some ⟨b, 0, none⟩), v] 229 := hX'
  have hl0 : l.length ≠ 0 := by simpa using h0
  rw [Lib.byteCells_length] at hown
  rcases hown.2 with ⟨_, hz⟩ | ⟨g, cap, cur, rfl, hbg, hg, hnc, hcm, hcs, _⟩
  · exact absurd hz hl0
  have c1 : w.drew.cell? ⟨b, 1, none⟩ = some (.slice (some ⟨g, 0, none⟩) l.length cap) := hX.cells2.2
  have k1 : (Builtin.unsafeSliceData_ #[55] 263 #[.slice (some ⟨g, 0, none⟩) l.length cap]).run Tryz.prog w.drew = .ok (.pointer (some ⟨g, 0, none⟩)) w.drew :=
    Lib.run_unsafeSliceData_row _ _ _ _ _ _ (by omega)
  have k2 : (Builtin.unsafeString_ #[263, 3] 9 #[.pointer (some ⟨g, 0, none⟩), .int .i64 l.length]).run Tryz.prog w.drew = .ok (.string ⟨l.toArray⟩) (w.drew.freeze ⟨g, 0, none⟩ l.length) :=
    Lib.run_unsafeString_row w.drew 263 3 9 5 Tryz.underlying263 cellsByte g cur.size (by
      have hg' : w.drew.heap[g]? = some (.cells cur 5 (0, 0)) := hg
      simp [World.shape?, hg']) l h0 (by omega) (by unfold maxLen at hcm; omega) (fun j x hx => hown.cells (g := g) rfl j (.int .u8 x.toNat) (by simp [Lib.byteCells, hx]))
  clear hX hX' hown
  go_enter Tryz.func195, Tryz.ntmps195
  go_wp2
  go_region
  all_goals
    go_wp2
    go_ret
    exact ⟨rfl, Lib.below_freeze (Below.drew (Below.refl B w)) (p := ⟨g, 0, none⟩) hbg _⟩

end Go.Proofs.YtlehlbgaboifoabGreatDoor
