/- The contract of the statements' own Node: one that may be. -/
import Derived.Test.YtcmgpbdciifdmaaL
namespace Go.Proofs.Ytcmgpbdciifdmaa
open Go.RowKit Go.Maps
attribute [local go_sem ↓] Go.wp_at_zero Go.wp_at_succ

/-- A row of marks of the four, and new from block B on. -/
structure GoodSet (B : Nat) (w : World) (a : Option Addr) (c : Nat) (ss : List ByteArray) : Prop where
  new : NewStrs B w a c ss
  sub : ∀ s ∈ ss, s ∈ four

theorem GoodSet.nil (B : Nat) (w : World) : GoodSet B w none 0 [] := ⟨⟨strs_nil w, (fun x hx => by cases hx), fun _ => rfl, by simp, SP.none⟩, by simp⟩
theorem GoodSet.later {B : Nat} {w w' : World} {a : Option Addr} {c : Nat} {ss : List ByteArray} (h : GoodSet B w a c ss) (hb : Below w.heap.size w w') : GoodSet B w' a c ss := ⟨h.new.later hb, h.sub⟩
theorem GoodSet.low {B B' : Nat} {w : World} {a : Option Addr} {c : Nat} {ss : List ByteArray} (h : GoodSet B w a c ss) (hB : B' ≤ B) : GoodSet B' w a c ss := ⟨h.new.low hB, h.sub⟩
theorem GoodSet.put {B : Nat} {w : World} {a : Option Addr} {c : Nat} {ss : List ByteArray} (h : GoodSet B w a c ss) {b : Nat} (hne : ∀ x, a = some x → x.block ≠ b) (i : Nat) (u : Value) : GoodSet B (w.setCell ⟨b, i, none⟩ u) a c ss :=
  ⟨h.new.grown (grown_set w b i u) (fun x hx e => hne x hx (Option.some.inj e)), h.sub⟩
theorem four_short : ∀ s ∈ four, s.size ≤ 1000 := by
  intro s hs
  simp only [four, List.mem_cons, List.not_mem_nil, or_false] at hs
  rcases hs with rfl | rfl | rfl | rfl <;> decide
theorem GoodSet.short {B : Nat} {w : World} {a : Option Addr} {c : Nat} {ss : List ByteArray} (h : GoodSet B w a c ss) (i : Nat) : (ss.getD i ByteArray.empty).size ≤ maxLen := by
  rcases Nat.lt_or_ge i ss.length with hi | hi
  · have := four_short _ (h.sub _ (List.getElem_mem hi))
    simp only [List.getD, List.getElem?_eq_getElem hi, Option.getD_some]
    unfold maxLen; omega
  · simp only [List.getD, List.getElem?_eq_none hi, Option.getD_none]
    exact Nat.zero_le _

theorem lSet_good (n : Int) (w : World) :
    Calls Try.prog 30 #[.int .i64 n] w fun e w' => ∃ a c ss, e = .returned (.slice a ss.length c) ∧ GoodSet w.heap.size w' a c ss ∧ Below w.heap.size w w' := by
  refine (lSet_any n w).mono ?_
  rintro e w' ⟨a, c, rfl, h1, h4⟩
  exact ⟨a, c, marksTo n 4, rfl, ⟨h1, marks_four n 4 (Nat.le_refl _)⟩, h4⟩

/-- The block of a node that is a variable. -/
def NBox (w : World) (B : Nat) (s : ByteArray) (cpu mem : Int) (u v : Value) (al : Bool) : Prop := w.heap[B]? = some (.cells #[.string s, .int .i64 cpu, .int .i64 mem, u, v, .bool al] 36 (0, 0))

theorem NBox.new (w : World) (s : ByteArray) (cpu mem : Int) (u v : Value) (al : Bool) : NBox (w.alloc (.cells #[.string s, .int .i64 cpu, .int .i64 mem, u, v, .bool al] 36)) w.heap.size s cpu mem u v al := heap_alloc_new w _
theorem NBox.later {w w' : World} {B : Nat} {s : ByteArray} {cpu mem : Int} {u v : Value} {al : Bool} (h : NBox w B s cpu mem u v al) (hb : Below w.heap.size w w') : NBox w' B s cpu mem u v al := by
  have := (Array.getElem?_eq_some_iff.1 h).1
  unfold NBox at *
  rw [hb.block B this, h]
theorem NBox.cells {w : World} {B : Nat} {s : ByteArray} {cpu mem : Int} {u v : Value} {al : Bool} (h : NBox w B s cpu mem u v al) :
    w.cell? ⟨B, 0, none⟩ = some (.string s) ∧ w.cell? ⟨B, 1, none⟩ = some (.int .i64 cpu) ∧ w.cell? ⟨B, 2, none⟩ = some (.int .i64 mem) ∧ w.cell? ⟨B, 3, none⟩ = some u ∧ w.cell? ⟨B, 4, none⟩ = some v ∧ w.cell? ⟨B, 5, none⟩ = some (.bool al) := by
  unfold NBox at h
  simp [World.cell?, h]
theorem NBox.frozen {w : World} {B : Nat} {s : ByteArray} {cpu mem : Int} {u v : Value} {al : Bool} (h : NBox w B s cpu mem u v al) (j : Nat) : w.frozen? ⟨B, j, none⟩ = false := by
  unfold NBox at h; simp [World.frozen?, h]

theorem NBox.set0 {w : World} {B : Nat} {s : ByteArray} {cpu mem : Int} {u v : Value} {al : Bool} (h : NBox w B s cpu mem u v al) (t : ByteArray) : NBox (w.setCell ⟨B, 0, none⟩ (.string t)) B t cpu mem u v al := by
  unfold NBox at *
  rw [heap_setCell_same w B 0 _ _ _ h]
  simp
theorem NBox.set1 {w : World} {B : Nat} {s : ByteArray} {cpu mem : Int} {u v : Value} {al : Bool} (h : NBox w B s cpu mem u v al) (z : Int) : NBox (w.setCell ⟨B, 1, none⟩ (.int .i64 z)) B s z mem u v al := by
  unfold NBox at *
  rw [heap_setCell_same w B 1 _ _ _ h]
  simp
theorem NBox.set2 {w : World} {B : Nat} {s : ByteArray} {cpu mem : Int} {u v : Value} {al : Bool} (h : NBox w B s cpu mem u v al) (z : Int) : NBox (w.setCell ⟨B, 2, none⟩ (.int .i64 z)) B s cpu z u v al := by
  unfold NBox at *
  rw [heap_setCell_same w B 2 _ _ _ h]
  simp
theorem NBox.set3 {w : World} {B : Nat} {s : ByteArray} {cpu mem : Int} {u v : Value} {al : Bool} (h : NBox w B s cpu mem u v al) (z : Value) : NBox (w.setCell ⟨B, 3, none⟩ (z)) B s cpu mem z v al := by
  unfold NBox at *
  rw [heap_setCell_same w B 3 _ _ _ h]
  simp
theorem NBox.set4 {w : World} {B : Nat} {s : ByteArray} {cpu mem : Int} {u v : Value} {al : Bool} (h : NBox w B s cpu mem u v al) (z : Value) : NBox (w.setCell ⟨B, 4, none⟩ (z)) B s cpu mem u z al := by
  unfold NBox at *
  rw [heap_setCell_same w B 4 _ _ _ h]
  simp
theorem NBox.grown {w w' : World} {B : Nat} {s : ByteArray} {cpu mem : Int} {u v : Value} {al : Bool} {row : Option Nat} (h : NBox w B s cpu mem u v al) (hg : w.grownBy w' row) (hne : some B ≠ row) : NBox w' B s cpu mem u v al := by
  have := (Array.getElem?_eq_some_iff.1 h).1
  unfold NBox at *
  rw [hg.block B this hne, h]
theorem HasRow.later {w w1 : World} {a : Option Addr} {len : Nat} {zs : List Int} (h : HasRow w a len zs) (hb : Below w.heap.size w w1) : HasRow w1 a len zs :=
  ⟨h.1, fun i hi => by
    obtain ⟨x, hx, hc⟩ := h.2 i hi
    exact ⟨x, hx, cell_below hb hc (block_lt hc)⟩⟩

set_option maxRecDepth 100000 in
set_option maxHeartbeats 4000000 in
theorem lNode_any (x n : Int) (w : World) :
    Calls Try.prog 12 #[.int .i64 x, .int .i64 n] w fun e w' => ∃ cpu mem a1 c1 xs a2 c2 ys al, e = .returned (.agg #[.string (nameAt x), .int .i64 cpu, .int .i64 mem, .slice a1 xs.length c1, .slice a2 ys.length c2, .bool al]) ∧
      (0 ≤ cpu ∧ cpu < 12 ∧ 0 ≤ mem ∧ mem < 12) ∧ GoodSet w.heap.size w' a1 c1 xs ∧ GoodSet w.heap.size w' a2 c2 ys ∧ Below w.heap.size w w' := by
  obtain ⟨s, hs⟩ : ∃ s, nameAt x = s := ⟨_, rfl⟩
  rw [hs]
  go_enter Try.func12, Try.ntmps12
  obtain ⟨t12, h12⟩ : ∃ t, wrap64 (n.tdiv 12) = t := ⟨_, rfl⟩
  obtain ⟨t17, h17⟩ : ∃ t, wrap64 (n.tdiv 17) = t := ⟨_, rfl⟩
  obtain ⟨t23, h23⟩ : ∃ t, wrap64 (n.tdiv 23) = t := ⟨_, rfl⟩
  obtain ⟨t31, h31⟩ : ∃ t, wrap64 (n.tdiv 31) = t := ⟨_, rfl⟩
  obtain ⟨t144, h144⟩ : ∃ t, wrap64 (n.tdiv 144) = t := ⟨_, rfl⟩
  obtain ⟨k, hk⟩ : ∃ k, t23 % 3 = k := ⟨_, rfl⟩
  by_cases hk0 : k = 0
  · subst hk0
    go_wp2_with (first
      | (go_at_call 16; refine (lName_is _ s _ _ (Below.refl _ _) hs).mono ?_; rintro e w1 ⟨rfl, hb1⟩
         have hR1 : NBox w1 w.heap.size _ _ _ _ _ _ := NBox.later (NBox.new w _ _ _ _ _ _) hb1
         have b1 := (up (Below.refl w.heap.size w) _).trans (hb1.mono (up (Below.refl w.heap.size w) _).size))
      | (go_at_call_of 29 (Value.int .i64 3); refine (within3_any _ _ _ (by decide) (by decide) hk _).mono ?_; rintro e w2 ⟨rfl, rfl⟩)
      | (go_at_call 29; refine (within3_any _ _ _ (by decide) (by decide) rfl _).mono ?_; rintro e w2 ⟨rfl, rfl⟩)
      | (go_at_call_of 30 (Value.int .i64 t144); refine (lSet_good _ _).mono ?_; rintro e w2 ⟨a1, c1, xs, rfl, hg1, hb2⟩
         have hR2 := hR1.later hb2
         have b2 := b1.trans (hb2.mono b1.size))
      | (go_at_call_of 30 (Value.int .i64 t31); refine (lSet_good _ _).mono ?_; rintro e w3 ⟨a2, c2, ys, rfl, hg2, hb3⟩
         have hX3 := NBox.later (NBox.new _ _ _ _ _ _ _) hb3
         have hR3 := (hR2.later (up (Below.refl _ _) _)).later hb3
         have hg3 := (hg1.later (up (Below.refl _ _) _)).later hb3
         have b3 := (up b2 _).trans (hb3.mono (up b2 _).size)
         obtain ⟨y0, y1, y2, y3, y4, y5⟩ := hX3.cells
         obtain ⟨r0, r1, r2, r3, r4, r5⟩ := hR3.cells
         have fx := hX3.frozen 4
         have fr0 := hR3.frozen 0
         have fr1 := hR3.frozen 1
         have fr2 := hR3.frozen 2
         have fr3 := hR3.frozen 3
         have fr4 := hR3.frozen 4
         have fr5 := hR3.frozen 5
         have hlt := (Array.getElem?_eq_some_iff.1 hR2).1
         have ne1 : w.heap.size ≠ w2.heap.size := by omega
         have ne2 : w2.heap.size ≠ w.heap.size := by omega
         clear hX3 hR3 hR2 hR1 hlt))
    have b1s := hb1.size
    have b2s := hb2.size
    have b3s := hb3.size
    have e1 : ∀ x, a1 = some x → x.block ≠ w.heap.size := fun x hx e => by have := (hg1.new.2.1 x hx).1; simp at b1s; omega
    have e2 : ∀ x, a1 = some x → x.block ≠ w2.heap.size := fun x hx e => by have := (hg1.new.2.1 x hx).2; omega
    have e3 : ∀ x, a2 = some x → x.block ≠ w.heap.size := fun x hx e => by have q1 := (hg2.new.2.1 x hx).1; have q2 := b2.size; simp at q1; omega
    have e4 : ∀ x, a2 = some x → x.block ≠ w2.heap.size := fun x hx e => by have := (hg2.new.2.1 x hx).1; simp at this; omega
    have le2 := b2.size
    refine bodyPost_ret (by simp [results, Try.results12, go_sem, r0, r1, r2, r3, r4, r5]) rfl ⟨n % 12, t12 % 12, a1, c1, xs, a2, c2, ys, (t17 % 9 == 0), rfl, by omega, ?_, ?_, ?_⟩
    · exact (((((((hg3.low (by have := b1.size; omega)).put e2 4 _).put e1 0 _).put e1 1 _).put e1 2 _).put e1 3 _).put e1 4 _).put e1 5 _
    · exact (((((((hg2.low (by simp; omega)).put e4 4 _).put e3 0 _).put e3 1 _).put e3 2 _).put e3 3 _).put e3 4 _).put e3 5 _
    · exact ((((((b3.setCell (p := ⟨w2.heap.size, 4, none⟩) le2 _).setCell (p := ⟨w.heap.size, 0, none⟩) (Nat.le_refl _) _).setCell (p := ⟨w.heap.size, 1, none⟩) (Nat.le_refl _) _).setCell (p := ⟨w.heap.size, 2, none⟩) (Nat.le_refl _) _).setCell (p := ⟨w.heap.size, 3, none⟩) (Nat.le_refl _) _).setCell (p := ⟨w.heap.size, 4, none⟩) (Nat.le_refl _) _).setCell (p := ⟨w.heap.size, 5, none⟩) (Nat.le_refl _) _
  · have hkb : (k == 0) = false := by simp [hk0]
    go_wp2_with (first
      | (go_at_call 16; refine (lName_is _ s _ _ (Below.refl _ _) hs).mono ?_; rintro e w1 ⟨rfl, hb1⟩
         have hR1 : NBox w1 w.heap.size _ _ _ _ _ _ := NBox.later (NBox.new w _ _ _ _ _ _) hb1
         have b1 := (up (Below.refl w.heap.size w) _).trans (hb1.mono (up (Below.refl w.heap.size w) _).size))
      | (go_at_call_of 29 (Value.int .i64 3); refine (within3_any _ _ _ (by decide) (by decide) hk _).mono ?_; rintro e w2 ⟨rfl, rfl⟩)
      | (go_at_call 29; refine (within3_any _ _ _ (by decide) (by decide) rfl _).mono ?_; rintro e w2 ⟨rfl, rfl⟩)
      | (go_at_call_of 30 (Value.int .i64 t144); refine (lSet_good _ _).mono ?_; rintro e w2 ⟨a1, c1, xs, rfl, hg1, hb2⟩
         have hR2 := hR1.later hb2
         have b2 := b1.trans (hb2.mono b1.size)
         obtain ⟨r0, r1, r2, r3, r4, r5⟩ := hR2.cells
         have fr0 := hR2.frozen 0
         have fr1 := hR2.frozen 1
         have fr2 := hR2.frozen 2
         have fr3 := hR2.frozen 3
         have fr4 := hR2.frozen 4
         have fr5 := hR2.frozen 5
         have hlt := (Array.getElem?_eq_some_iff.1 hR2).1
         have hltn := hlt
         clear hR1 hR2))
    have b1s := hb1.size
    have e1 : ∀ x, a1 = some x → x.block ≠ w.heap.size := fun x hx e => by have q1 := (hg1.new.2.1 x hx).1; simp at b1s; omega
    refine bodyPost_ret (by simp [results, Try.results12, go_sem, r0, r1, r2, r3, r4, r5, hltn]) rfl ⟨n % 12, t12 % 12, a1, c1, xs, none, 0, [], (t17 % 9 == 0), rfl, by omega, ?_, GoodSet.nil _ _, ?_⟩
    · exact ((((((((hg1.low (by have := b1.size; omega)).put e1 0 _).put e1 1 _).put e1 2 _).put e1 3 _).put e1 4 _).put e1 5 _).later (up (Below.refl _ _) _))
    · exact up ((((((b2.setCell (p := ⟨w.heap.size, 0, none⟩) (Nat.le_refl _) _).setCell (p := ⟨w.heap.size, 1, none⟩) (Nat.le_refl _) _).setCell (p := ⟨w.heap.size, 2, none⟩) (Nat.le_refl _) _).setCell (p := ⟨w.heap.size, 3, none⟩) (Nat.le_refl _) _).setCell (p := ⟨w.heap.size, 4, none⟩) (Nat.le_refl _) _).setCell (p := ⟨w.heap.size, 5, none⟩) (Nat.le_refl _) _) _

end Go.Proofs.Ytcmgpbdciifdmaa
