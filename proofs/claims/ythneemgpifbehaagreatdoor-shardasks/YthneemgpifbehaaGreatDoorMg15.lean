/- The set of marks of a number, as the statements make it. -/
import Derived.Test.YthneemgpifbehaaGreatDoorMg08
import Derived.Test.YthneemgpifbehaaGreatDoorMg02
import Derived.ArgAppend
import Derived.OneCell
import Derived.Deep.RegionHeld3
import Derived.Deep.DrawnRows
import Derived.StillTactics
import Derived.Laws.Pointers
import Derived.Test.YthneemgpifbehaaGreatDoorMg03
namespace Go.Proofs.YthneemgpifbehaaGreatDoor
open Go.RowKit Go.Maps
attribute [local go_sem ↓] Go.wp_at_zero Go.wp_at_succ

theorem infoS9 : (Tryz.prog.info? 9).map (fun i => (i.zero, i.size, i.bytes)) = some (some (.string ⟨#[]⟩), 1, 16) := by kernel_rfl

theorem strings_oneCell (ts : List ByteArray) : ∀ u ∈ ts.map Value.string, u.oneCell' = true := by
  intro u hu
  obtain ⟨s, _, rfl⟩ := List.mem_map.1 hu
  rfl

theorem strs_news {w : World} {x : Addr} {ts : List ByteArray} (h : Strs w (some x) ts) : ∀ j u, (ts.map Value.string)[j]? = some u → w.cell? (x.add j) = some u := by
  intro j u hu
  have hj : j < ts.length := by
    rcases Nat.lt_or_ge j ts.length with h' | h'
    · exact h'
    · rw [List.getElem?_eq_none (by simpa using h')] at hu; cases hu
  obtain ⟨x', hx, hc⟩ := h.2 j hj
  cases hx
  rw [hc]
  simp [List.getElem?_eq_getElem hj] at hu ⊢
  exact hu

theorem strs_nil (w : World) : Strs w none [] := ⟨by simp, fun i hi => by simp at hi⟩
/-- A row of texts that is new, from block B on. -/
def NewStrs (B : Nat) (w : World) (a : Option Addr) (c : Nat) (ss : List ByteArray) : Prop :=
  Strs w a ss ∧ (∀ x, a = some x → B ≤ x.block ∧ x.block < w.heap.size) ∧ (a = none → c = 0) ∧ ss.length ≤ c ∧ SP a

theorem newStrs_of_own {w : World} {base : Nat} {v : Value} {n : Nat} {ss : List ByteArray} (h : w.ownsRow base 9 1 v n (ss.map Value.string)) (hl : ss.length ≤ 1000) : ∃ a cap, v = .slice a ss.length cap ∧ NewStrs base w a cap ss := by
  have hn : ss.length = n := by have := h.1; simpa using this
  rcases h.2 with ⟨rfl, h0⟩ | ⟨g, cap, cur, rfl, hb, hh, hncap, hrest⟩
  · refine ⟨none, 0, by rw [hn, h0], ⟨hl, fun i hi => by omega⟩, (fun x hx => by cases hx), fun _ => rfl, by omega, SP.none⟩
  · refine ⟨some ⟨g, 0, none⟩, cap, by rw [hn], ⟨hl, fun i hi => ⟨_, rfl, ?_⟩⟩, (fun x hx => by cases hx; exact ⟨hb, (Array.getElem?_eq_some_iff.1 hh).1⟩), (fun h => by cases h), by omega, SP.some _ _⟩
    refine h.cells (g := g) rfl i _ ?_
    simp [List.getElem?_eq_getElem hi]

theorem strs_grown {w w' : World} {a : Option Addr} {ss : List ByteArray} {row : Option Nat} (h : Strs w a ss) (hg : w.grownBy w' row) (hne : ∀ x, a = some x → some x.block ≠ row) : Strs w' a ss :=
  ⟨h.1, fun i hi => by
    obtain ⟨x, hx, hc⟩ := h.2 i hi
    refine ⟨x, hx, hg.cell hc ?_⟩
    have : (x.add i).block = x.block := by unfold Addr.add; split <;> rfl
    rw [this]
    exact hne x hx⟩

theorem NewStrs.grown {B : Nat} {w w' : World} {a : Option Addr} {c : Nat} {ss : List ByteArray} {row : Option Nat} (h : NewStrs B w a c ss) (hg : w.grownBy w' row) (hne : ∀ x, a = some x → some x.block ≠ row) : NewStrs B w' a c ss :=
  ⟨strs_grown h.1 hg hne, fun x hx => ⟨(h.2.1 x hx).1, Nat.lt_of_lt_of_le (h.2.1 x hx).2 hg.size⟩, h.2.2⟩


theorem NewStrs.later {B : Nat} {w w' : World} {a : Option Addr} {c : Nat} {ss : List ByteArray} (h : NewStrs B w a c ss) (hb : Below w.heap.size w w') : NewStrs B w' a c ss :=
  h.grown (below_grown hb none) (fun x _ e => by cases e)

theorem NewStrs.low {B B' : Nat} {w : World} {a : Option Addr} {c : Nat} {ss : List ByteArray} (h : NewStrs B w a c ss) (hB : B' ≤ B) : NewStrs B' w a c ss :=
  ⟨h.1, fun x hx => ⟨Nat.le_trans hB (h.2.1 x hx).1, (h.2.1 x hx).2⟩, h.2.2⟩

/-- The four marks. -/
def four : List ByteArray := [⟨#[98, 105, 103]⟩, ⟨#[115, 115, 100]⟩, ⟨#[119, 101, 115, 116]⟩, ⟨#[206, 179]⟩]
/-- Is this bit of the number set? -/
def bit (n : Int) (k : Nat) : Bool := decide (n / 2 ^ k % 2 = 1)
/-- The marks of a number, of the first k. -/
def marksTo (n : Int) : Nat → List ByteArray
  | 0 => []
  | k + 1 => marksTo n k ++ if bit n k then [four.getD k ByteArray.empty] else []

theorem marksTo_le (n : Int) : ∀ k, (marksTo n k).length ≤ k
  | 0 => by simp [marksTo]
  | k + 1 => by
    have := marksTo_le n k
    rw [marksTo]
    split <;> simp <;> omega

set_option maxRecDepth 100000 in
set_option maxHeartbeats 4000000 in
theorem lSet_any (n : Int) (w : World) :
    Calls Tryz.prog 76 #[.int .i64 n] w fun e w' => ∃ a cap, e = .returned (.slice a (marksTo n 4).length cap) ∧ NewStrs w.heap.size w' a cap (marksTo n 4) ∧ Below w.heap.size w w' := by
  obtain ⟨i0, hi, hz0, hz1, hz2⟩ := info_parts infoS9
  go_enter Tryz.func76, Tryz.ntmps76
  go_wp2
  go_loopw [4, 5] (fun v i wr => ∃ k : Nat, k ≤ 4 ∧ i = .int .i64 k ∧ wr.ownsRow (w.heap.size + 1) 9 1 v (marksTo n k).length ((marksTo n k).map Value.string) ∧ Below w.heap.size w wr ∧ w.heap.size + 1 ≤ wr.heap.size ∧
      (∀ j, j < 4 → wr.cell? ⟨w.heap.size, j, none⟩ = some (.string (four.getD j ByteArray.empty))))
    (fun _ i _ => 4 - (intOf i).toNat)
  case atStart => exact ⟨0, Nat.zero_le _, rfl, World.ownsRow_nil _ _ _ _, (Below.refl _ _).alloc (Nat.le_refl _) _, by simp, fun j hj => by
    rcases (by omega : j = 0 ∨ j = 1 ∨ j = 2 ∨ j = 3) with rfl | rfl | rfl | rfl <;> simp [four]⟩
  case round =>
    obtain ⟨k, hk, rfl, hrow, hbw, hws, hc⟩ := hrel
    by_cases hlt : k < 4
    · obtain ⟨q, hq⟩ : ∃ q, n / 2 ^ k % 2 = q := ⟨_, rfl⟩
      have hck := hc k hlt
      obtain ⟨s, hs⟩ : ∃ s, four.getD k ByteArray.empty = s := ⟨_, rfl⟩
      rw [hs] at hck
      have hle := marksTo_le n k
      obtain ⟨ms, hms⟩ : ∃ ms, marksTo n k = ms := ⟨_, rfl⟩
      have hstep : Hid (marksTo n (k + 1) = ms ++ if q = 1 then [s] else []) := by
        show _ = _
        rw [marksTo, bit, hq, hms, hs]
        simp
      rw [hms] at hrow hle
      clear hms hs
      have hne : some w.heap.size ≠ u4.ownBlock := fun e => by
        have := (hrow.lt _ e.symm).1
        omega
      have HC : Hid (∀ j, j < 4 → wr.cell? ⟨w.heap.size, j, none⟩ = some (.string (four.getD j ByteArray.empty))) := hc
      clear hc
      rcases (by omega : q = 0 ∨ q = 1) with rfl | rfl
      · rcases (by omega : k = 0 ∨ k = 1 ∨ k = 2 ∨ k = 3) with rfl | rfl | rfl | rfl
        all_goals
          simp only [Int.pow_zero, Int.ediv_one, Int.reducePow] at hq
          go_wp2_with (go_at_call 80; refine (within2_any _ _ _ (by decide) (by decide) (by assumption) _).mono ?_; rintro e w2 ⟨rfl, rfl⟩)
          go_roundw
          case rel => exact ⟨_, hlt, rfl, by rw [hstep.out]; simpa using hrow, hbw, hws, HC.out⟩
          case measure => simp [intOf]
      · rcases (by omega : k = 0 ∨ k = 1 ∨ k = 2 ∨ k = 3) with rfl | rfl | rfl | rfl
        all_goals
          simp only [Int.pow_zero, Int.ediv_one, Int.reducePow] at hq
          go_wp2_with (first
            | (go_at_call 80; refine (within2_any _ _ _ (by decide) (by decide) (by assumption) _).mono ?_; rintro e w2 ⟨rfl, rfl⟩)
            | (at_builtin; refine wpList_append_own _ rfl _ _ 53 rfl (w.heap.size + 1) 9 i0 (.string ⟨#[]⟩) 1 16 Tryz.underlying53 hi hz0 hz1 hz2 rfl (by decide) _ _ _ rfl (hrow.alloc _) ⟨_, 0, none⟩ 1 1 [.string s] rfl rfl (cell_one_new _ _ _) (fun u hu => by simp at hu; subst hu; rfl) (by unfold maxLen; omega) (by omega) (by simp; omega) ?_; intro v' w1 hown' hgrow hnil)
            | go_in)
          go_roundw
          case rel =>
            refine ⟨_, hlt, rfl, by rw [hstep.out]; simpa using hown', (hbw.alloc hbw.size _).grown hgrow (by simp; omega) (fun j hj => by have := (hrow.lt j hj).1; omega), by have := hgrow.size; simp at this; omega, fun j hj => ?_⟩
            exact hgrow.cell (cell_alloc (HC.out j hj) _) hne
          case measure => simp [intOf]
    · have e4 : k = 4 := by omega
      subst e4
      obtain ⟨a, cap, rfl, hS⟩ := newStrs_of_own hrow (by have := marksTo_le n 4; omega)
      clear hrow
      go_wp2
      go_ret
      exact ⟨_, _, rfl, hS.low (by omega), hbw⟩

theorem marks_four (n : Int) : ∀ k, k ≤ 4 → ∀ s ∈ marksTo n k, s ∈ four
  | 0, _, s, hs => by simp [marksTo] at hs
  | k + 1, hk, s, hs => by
    rw [marksTo] at hs
    rcases List.mem_append.1 hs with h | h
    · exact marks_four n k (by omega) s h
    · split at h
      · simp only [List.mem_singleton] at h
        subst h
        rcases (by omega : k = 0 ∨ k = 1 ∨ k = 2 ∨ k = 3) with rfl | rfl | rfl | rfl <;> simp [four]
      · simp at h

end Go.Proofs.YthneemgpifbehaaGreatDoor

/- The contract of the statements' own Node: one that may be. -/
namespace Go.Proofs.YthneemgpifbehaaGreatDoor
open Go.RowKit Go.Maps
attribute [local go_sem ↓] Go.wp_at_zero Go.wp_at_succ

/-- A row of marks of the four, and new from block B on. -/
structure GoodSet (B : Nat) (w : World) (a : Option Addr) (c : Nat) (ss : List ByteArray) : Prop where
  new : NewStrs B w a c ss
  sub : ∀ s ∈ ss, s ∈ four

theorem GoodSet.nil (B : Nat) (w : World) : GoodSet B w none 0 [] := ⟨⟨strs_nil w, (fun x hx => by cases hx), fun _ => rfl, by simp, SP.none⟩, by simp⟩
theorem GoodSet.later {B : Nat} {w w' : World} {a : Option Addr} {c : Nat} {ss : List ByteArray} (h : GoodSet B w a c ss) (hb : Below w.heap.size w w') : GoodSet B w' a c ss := ⟨h.new.later hb, h.sub⟩
theorem GoodSet.low {B B' : Nat} {w : World} {a : Option Addr} {c : Nat} {ss : List ByteArray} (h : GoodSet B w a c ss) (hB : B' ≤ B) : GoodSet B' w a c ss := ⟨h.new.low hB, h.sub⟩
theorem GoodSet.put {B : Nat} {w : World} {a : Option Addr} {c : Nat} {ss : List ByteArray} (h : GoodSet B w a c ss) {b : Nat} (hne : ∀ x, a = some x → x.block ≠ b) (i : Nat) (u : Value) : GoodSet B (w.setCell ⟨b, i, none⟩ u) a c ss :=
  ⟨h.new.grown (grown_set w b i u) (fun x hx e => hne x hx (Option.some.inj e)), h.sub⟩
theorem four_short : ∀ s ∈ four, s.size ≤ 1000 := by
  intro s hs
  simp only [four, List.mem_cons, List.not_mem_nil, or_false] at hs
  rcases hs with rfl | rfl | rfl | rfl <;> decide
theorem GoodSet.short {B : Nat} {w : World} {a : Option Addr} {c : Nat} {ss : List ByteArray} (h : GoodSet B w a c ss) (i : Nat) : (ss.getD i ByteArray.empty).size ≤ maxLen := by
  rcases Nat.lt_or_ge i ss.length with hi | hi
  · have := four_short _ (h.sub _ (List.getElem_mem hi))
    simp only [List.getD, List.getElem?_eq_getElem hi, Option.getD_some]
    unfold maxLen; omega
  · simp only [List.getD, List.getElem?_eq_none hi, Option.getD_none]
    exact Nat.zero_le _

theorem lSet_good (n : Int) (w : World) :
    Calls Tryz.prog 76 #[.int .i64 n] w fun e w' => ∃ a c ss, e = .returned (.slice a ss.length c) ∧ GoodSet w.heap.size w' a c ss ∧ Below w.heap.size w w' := by
  refine (lSet_any n w).mono ?_
  rintro e w' ⟨a, c, rfl, h1, h4⟩
  exact ⟨a, c, marksTo n 4, rfl, ⟨h1, marks_four n 4 (Nat.le_refl _)⟩, h4⟩

/-- The block of a node that is a variable. -/
def NBox (w : World) (B : Nat) (s : ByteArray) (cpu mem : Int) (u v : Value) (al : Bool) : Prop := w.heap[B]? = some (.cells #[.string s, .int .i64 cpu, .int .i64 mem, u, v, .bool al] 55 (0, 0))

theorem NBox.new (w : World) (s : ByteArray) (cpu mem : Int) (u v : Value) (al : Bool) : NBox (w.alloc (.cells #[.string s, .int .i64 cpu, .int .i64 mem, u, v, .bool al] 55)) w.heap.size s cpu mem u v al := heap_alloc_new w _
theorem NBox.later {w w' : World} {B : Nat} {s : ByteArray} {cpu mem : Int} {u v : Value} {al : Bool} (h : NBox w B s cpu mem u v al) (hb : Below w.heap.size w w') : NBox w' B s cpu mem u v al := by
  have := (Array.getElem?_eq_some_iff.1 h).1
  unfold NBox at *
  rw [hb.block B this, h]
theorem NBox.cells {w : World} {B : Nat} {s : ByteArray} {cpu mem : Int} {u v : Value} {al : Bool} (h : NBox w B s cpu mem u v al) :
    w.cell? ⟨B, 0, none⟩ = some (.string s) ∧ w.cell? ⟨B, 1, none⟩ = some (.int .i64 cpu) ∧ w.cell? ⟨B, 2, none⟩ = some (.int .i64 mem) ∧ w.cell? ⟨B, 3, none⟩ = some u ∧ w.cell? ⟨B, 4, none⟩ = some v ∧ w.cell? ⟨B, 5, none⟩ = some (.bool al) := by
  unfold NBox at h
  simp [World.cell?, h]
theorem NBox.frozen {w : World} {B : Nat} {s : ByteArray} {cpu mem : Int} {u v : Value} {al : Bool} (h : NBox w B s cpu mem u v al) (j : Nat) : w.frozen? ⟨B, j, none⟩ = false := by
  unfold NBox at h; simp [World.frozen?, h]

theorem NBox.set0 {w : World} {B : Nat} {s : ByteArray} {cpu mem : Int} {u v : Value} {al : Bool} (h : NBox w B s cpu mem u v al) (t : ByteArray) : NBox (w.setCell ⟨B, 0, none⟩ (.string t)) B t cpu mem u v al := by
  unfold NBox at *
  rw [heap_setCell_same w B 0 _ _ _ h]
  simp
theorem NBox.set1 {w : World} {B : Nat} {s : ByteArray} {cpu mem : Int} {u v : Value} {al : Bool} (h : NBox w B s cpu mem u v al) (z : Int) : NBox (w.setCell ⟨B, 1, none⟩ (.int .i64 z)) B s z mem u v al := by
  unfold NBox at *
  rw [heap_setCell_same w B 1 _ _ _ h]
  simp
theorem NBox.set2 {w : World} {B : Nat} {s : ByteArray} {cpu mem : Int} {u v : Value} {al : Bool} (h : NBox w B s cpu mem u v al) (z : Int) : NBox (w.setCell ⟨B, 2, none⟩ (.int .i64 z)) B s cpu z u v al := by
  unfold NBox at *
  rw [heap_setCell_same w B 2 _ _ _ h]
  simp
theorem NBox.set3 {w : World} {B : Nat} {s : ByteArray} {cpu mem : Int} {u v : Value} {al : Bool} (h : NBox w B s cpu mem u v al) (z : Value) : NBox (w.setCell ⟨B, 3, none⟩ (z)) B s cpu mem z v al := by
  unfold NBox at *
  rw [heap_setCell_same w B 3 _ _ _ h]
  simp
theorem NBox.set4 {w : World} {B : Nat} {s : ByteArray} {cpu mem : Int} {u v : Value} {al : Bool} (h : NBox w B s cpu mem u v al) (z : Value) : NBox (w.setCell ⟨B, 4, none⟩ (z)) B s cpu mem u z al := by
  unfold NBox at *
  rw [heap_setCell_same w B 4 _ _ _ h]
  simp
theorem NBox.grown {w w' : World} {B : Nat} {s : ByteArray} {cpu mem : Int} {u v : Value} {al : Bool} {row : Option Nat} (h : NBox w B s cpu mem u v al) (hg : w.grownBy w' row) (hne : some B ≠ row) : NBox w' B s cpu mem u v al := by
  have := (Array.getElem?_eq_some_iff.1 h).1
  unfold NBox at *
  rw [hg.block B this hne, h]
theorem HasRow.later {w w1 : World} {a : Option Addr} {len : Nat} {zs : List Int} (h : HasRow w a len zs) (hb : Below w.heap.size w w1) : HasRow w1 a len zs :=
  ⟨h.1, fun i hi => by
    obtain ⟨x, hx, hc⟩ := h.2 i hi
    exact ⟨x, hx, cell_below hb hc (block_lt hc)⟩⟩

set_option maxRecDepth 100000 in
set_option maxHeartbeats 4000000 in
theorem lNode_any (x n : Int) (w : World) :
    Calls Tryz.prog 31 #[.int .i64 x, .int .i64 n] w fun e w' => ∃ cpu mem a1 c1 xs a2 c2 ys al, e = .returned (.agg #[.string (nameAt x), .int .i64 cpu, .int .i64 mem, .slice a1 xs.length c1, .slice a2 ys.length c2, .bool al]) ∧
      (0 ≤ cpu ∧ cpu < 12 ∧ 0 ≤ mem ∧ mem < 12) ∧ GoodSet w.heap.size w' a1 c1 xs ∧ GoodSet w.heap.size w' a2 c2 ys ∧ Below w.heap.size w w' := by
  obtain ⟨s, hs⟩ : ∃ s, nameAt x = s := ⟨_, rfl⟩
  rw [hs]
  go_enter Tryz.func31, Tryz.ntmps31
  obtain ⟨t12, h12⟩ : ∃ t, wrap64 (n.tdiv 12) = t := ⟨_, rfl⟩
  obtain ⟨t17, h17⟩ : ∃ t, wrap64 (n.tdiv 17) = t := ⟨_, rfl⟩
  obtain ⟨t23, h23⟩ : ∃ t, wrap64 (n.tdiv 23) = t := ⟨_, rfl⟩
  obtain ⟨t31, h31⟩ : ∃ t, wrap64 (n.tdiv 31) = t := ⟨_, rfl⟩
  obtain ⟨t144, h144⟩ : ∃ t, wrap64 (n.tdiv 144) = t := ⟨_, rfl⟩
  obtain ⟨k, hk⟩ : ∃ k, t23 % 3 = k := ⟨_, rfl⟩
  by_cases hk0 : k = 0
  · subst hk0
    go_wp2_with (first
      | (go_at_call 37; refine (lName_is _ s _ _ (Below.refl _ _) hs).mono ?_; rintro e w1 ⟨rfl, hb1⟩
         have hR1 : NBox w1 w.heap.size _ _ _ _ _ _ := NBox.later (NBox.new w _ _ _ _ _ _) hb1
         have b1 := (up (Below.refl w.heap.size w) _).trans (hb1.mono (up (Below.refl w.heap.size w) _).size))
      | (go_at_call_of 75 (Value.int .i64 3); refine (within3_any _ _ _ (by decide) (by decide) hk _).mono ?_; rintro e w2 ⟨rfl, rfl⟩)
      | (go_at_call 75; refine (within3_any _ _ _ (by decide) (by decide) rfl _).mono ?_; rintro e w2 ⟨rfl, rfl⟩)
      | (go_at_call_of 76 (Value.int .i64 t144); refine (lSet_good _ _).mono ?_; rintro e w2 ⟨a1, c1, xs, rfl, hg1, hb2⟩
         have hR2 := hR1.later hb2
         have b2 := b1.trans (hb2.mono b1.size))
      | (go_at_call_of 76 (Value.int .i64 t31); refine (lSet_good _ _).mono ?_; rintro e w3 ⟨a2, c2, ys, rfl, hg2, hb3⟩
         have hX3 := NBox.later (NBox.new _ _ _ _ _ _ _) hb3
         have hR3 := (hR2.later (up (Below.refl _ _) _)).later hb3
         have hg3 := (hg1.later (up (Below.refl _ _) _)).later hb3
         have b3 := (up b2 _).trans (hb3.mono (up b2 _).size)
         obtain ⟨y0, y1, y2, y3, y4, y5⟩ := hX3.cells
         obtain ⟨r0, r1, r2, r3, r4, r5⟩ := hR3.cells
         have fx := hX3.frozen 4
         have fr0 := hR3.frozen 0
         have fr1 := hR3.frozen 1
         have fr2 := hR3.frozen 2
         have fr3 := hR3.frozen 3
         have fr4 := hR3.frozen 4
         have fr5 := hR3.frozen 5
         have hlt := (Array.getElem?_eq_some_iff.1 hR2).1
         have ne1 : w.heap.size ≠ w2.heap.size := by omega
         have ne2 : w2.heap.size ≠ w.heap.size := by omega
         clear hX3 hR3 hR2 hR1 hlt))
    have b1s := hb1.size
    have b2s := hb2.size
    have b3s := hb3.size
    have e1 : ∀ x, a1 = some x → x.block ≠ w.heap.size := fun x hx e => by have := (hg1.new.2.1 x hx).1; simp at b1s; omega
    have e2 : ∀ x, a1 = some x → x.block ≠ w2.heap.size := fun x hx e => by have := (hg1.new.2.1 x hx).2; omega
    have e3 : ∀ x, a2 = some x → x.block ≠ w.heap.size := fun x hx e => by have q1 := (hg2.new.2.1 x hx).1; have q2 := b2.size; simp at q1; omega
    have e4 : ∀ x, a2 = some x → x.block ≠ w2.heap.size := fun x hx e => by have := (hg2.new.2.1 x hx).1; simp at this; omega
    have le2 := b2.size
    refine bodyPost_ret (by simp [results, Tryz.results31, go_sem, r0, r1, r2, r3, r4, r5]) rfl ⟨n % 12, t12 % 12, a1, c1, xs, a2, c2, ys, (t17 % 9 == 0), rfl, by omega, ?_, ?_, ?_⟩
    · exact (((((((hg3.low (by have := b1.size; omega)).put e2 4 _).put e1 0 _).put e1 1 _).put e1 2 _).put e1 3 _).put e1 4 _).put e1 5 _
    · exact (((((((hg2.low (by simp; omega)).put e4 4 _).put e3 0 _).put e3 1 _).put e3 2 _).put e3 3 _).put e3 4 _).put e3 5 _
    · exact ((((((b3.setCell (p := ⟨w2.heap.size, 4, none⟩) le2 _).setCell (p := ⟨w.heap.size, 0, none⟩) (Nat.le_refl _) _).setCell (p := ⟨w.heap.size, 1, none⟩) (Nat.le_refl _) _).setCell (p := ⟨w.heap.size, 2, none⟩) (Nat.le_refl _) _).setCell (p := ⟨w.heap.size, 3, none⟩) (Nat.le_refl _) _).setCell (p := ⟨w.heap.size, 4, none⟩) (Nat.le_refl _) _).setCell (p := ⟨w.heap.size, 5, none⟩) (Nat.le_refl _) _
  · have hkb : (k == 0) = false := by simp [hk0]
    go_wp2_with (first
      | (go_at_call 37; refine (lName_is _ s _ _ (Below.refl _ _) hs).mono ?_; rintro e w1 ⟨rfl, hb1⟩
         have hR1 : NBox w1 w.heap.size _ _ _ _ _ _ := NBox.later (NBox.new w _ _ _ _ _ _) hb1
         have b1 := (up (Below.refl w.heap.size w) _).trans (hb1.mono (up (Below.refl w.heap.size w) _).size))
      | (go_at_call_of 75 (Value.int .i64 3); refine (within3_any _ _ _ (by decide) (by decide) hk _).mono ?_; rintro e w2 ⟨rfl, rfl⟩)
      | (go_at_call 75; refine (within3_any _ _ _ (by decide) (by decide) rfl _).mono ?_; rintro e w2 ⟨rfl, rfl⟩)
      | (go_at_call_of 76 (Value.int .i64 t144); refine (lSet_good _ _).mono ?_; rintro e w2 ⟨a1, c1, xs, rfl, hg1, hb2⟩
         have hR2 := hR1.later hb2
         have b2 := b1.trans (hb2.mono b1.size)
         obtain ⟨r0, r1, r2, r3, r4, r5⟩ := hR2.cells
         have fr0 := hR2.frozen 0
         have fr1 := hR2.frozen 1
         have fr2 := hR2.frozen 2
         have fr3 := hR2.frozen 3
         have fr4 := hR2.frozen 4
         have fr5 := hR2.frozen 5
         have hlt := (Array.getElem?_eq_some_iff.1 hR2).1
         have hltn := hlt
         clear hR1 hR2))
    have b1s := hb1.size
    have e1 : ∀ x, a1 = some x → x.block ≠ w.heap.size := fun x hx e => by have q1 := (hg1.new.2.1 x hx).1; simp at b1s; omega
    refine bodyPost_ret (by simp [results, Tryz.results31, go_sem, r0, r1, r2, r3, r4, r5, hltn]) rfl ⟨n % 12, t12 % 12, a1, c1, xs, none, 0, [], (t17 % 9 == 0), rfl, by omega, ?_, GoodSet.nil _ _, ?_⟩
    · exact ((((((((hg1.low (by have := b1.size; omega)).put e1 0 _).put e1 1 _).put e1 2 _).put e1 3 _).put e1 4 _).put e1 5 _).later (up (Below.refl _ _) _))
    · exact up ((((((b2.setCell (p := ⟨w.heap.size, 0, none⟩) (Nat.le_refl _) _).setCell (p := ⟨w.heap.size, 1, none⟩) (Nat.le_refl _) _).setCell (p := ⟨w.heap.size, 2, none⟩) (Nat.le_refl _) _).setCell (p := ⟨w.heap.size, 3, none⟩) (Nat.le_refl _) _).setCell (p := ⟨w.heap.size, 4, none⟩) (Nat.le_refl _) _).setCell (p := ⟨w.heap.size, 5, none⟩) (Nat.le_refl _) _) _

end Go.Proofs.YthneemgpifbehaaGreatDoor

/- The words of a line: the first sign of a text; the contracts of parting and take of package line. -/
namespace Go.Proofs.YthneemgpifbehaaGreatDoor
open Go.RowKit
set_option linter.unusedSimpArgs false
set_option linter.unusedVariables false

section
variable {w w' : World} {B : Nat} {cs : Array Value} {t : TypeId} {x0 x1 x2 x3 x4 x5 x6 : Value}
end

/-- A sign of a line. -/
def sgn (r : Int) : Bool := decide (r = 32) || decide (r = 58) || decide (r = 44) || decide (r = 43) || decide (r = 126) || decide (r = 33) || decide (r = 62) || decide (r = 64)
/-- The first sign from this byte on: where, and which. -/
def tkR (s : ByteArray) : Nat → Nat → Option (Nat × Int)
  | 0, _ => none
  | f + 1, pos => if pos < s.size then (if sgn (Utf8.decode s pos).1 then some (pos, (Utf8.decode s pos).1) else tkR s f (pos + (Utf8.decode s pos).2)) else none

theorem parting_any (r : Int) (b : Bool) (h : sgn r = b) (w : World) :
    Calls Tryz.prog 243 #[.int .i32 r] w fun e w' => e = .returned (.bool b) ∧ w' = w := by
  subst h
  unfold sgn
  by_cases h1 : r = 32
  · subst h1; go_enter Tryz.func243, Tryz.ntmps243; go_wp2; go_ret; exact ⟨rfl, rfl⟩
  by_cases h2 : r = 58
  · subst h2; go_enter Tryz.func243, Tryz.ntmps243; go_wp2; go_ret; exact ⟨rfl, rfl⟩
  by_cases h3 : r = 44
  · subst h3; go_enter Tryz.func243, Tryz.ntmps243; go_wp2; go_ret; exact ⟨rfl, rfl⟩
  by_cases h4 : r = 43
  · subst h4; go_enter Tryz.func243, Tryz.ntmps243; go_wp2; go_ret; exact ⟨rfl, rfl⟩
  by_cases h5 : r = 126
  · subst h5; go_enter Tryz.func243, Tryz.ntmps243; go_wp2; go_ret; exact ⟨rfl, rfl⟩
  by_cases h6 : r = 33
  · subst h6; go_enter Tryz.func243, Tryz.ntmps243; go_wp2; go_ret; exact ⟨rfl, rfl⟩
  by_cases h7 : r = 62
  · subst h7; go_enter Tryz.func243, Tryz.ntmps243; go_wp2; go_ret; exact ⟨rfl, rfl⟩
  by_cases h8 : r = 64
  · subst h8; go_enter Tryz.func243, Tryz.ntmps243; go_wp2; go_ret; exact ⟨rfl, rfl⟩
  have b1 : (r == 32) = false := by simp [h1]
  have b2 : (r == 58) = false := by simp [h2]
  have b3 : (r == 44) = false := by simp [h3]
  have b4 : (r == 43) = false := by simp [h4]
  have b5 : (r == 126) = false := by simp [h5]
  have b6 : (r == 33) = false := by simp [h6]
  have b7 : (r == 62) = false := by simp [h7]
  have b8 : (r == 64) = false := by simp [h8]
  simp only [h1, h2, h3, h4, h5, h6, h7, h8, decide_false, Bool.or_self]
  go_enter Tryz.func243, Tryz.ntmps243
  go_wp2
  go_ret
  exact ⟨rfl, rfl⟩

end Go.Proofs.YthneemgpifbehaaGreatDoor
