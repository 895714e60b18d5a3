/- The contract of the statements' own Node, told exactly; such a node may be. -/
import Derived.Test.YtmldpihjndafaabDoorUV
namespace Go.Proofs.YtmldpihjndafaabDoor
open Go.RowKit Go.Maps
set_option linter.unusedSimpArgs false
set_option linter.unusedVariables false
attribute [local go_sem ↓] Go.wp_at_zero Go.wp_at_succ

/-- A node's marks and taints by its number, and whether it is closed. -/
def nodeXs (n : Int) : List ByteArray := marksTo (wrap64 (n.tdiv 144)) 4
def nodeYs (n : Int) : List ByteArray := if wrap64 (n.tdiv 23) % 3 = 0 then marksTo (wrap64 (n.tdiv 31)) 4 else []
theorem lSet_is (n : Int) (ss : List ByteArray) (hs : marksTo n 4 = ss) (w : World) :
    Calls Tryd.prog 32 #[.int .i64 n] w fun e w' => ∃ a c, e = .returned (.slice a ss.length c) ∧ GoodSet w.heap.size w' a c ss ∧ Below w.heap.size w w' := by
  subst hs
  refine (lSet_any n w).mono ?_
  rintro e w' ⟨a, c, rfl, h1, h4⟩
  exact ⟨a, c, rfl, ⟨h1, marks_four n 4 (Nat.le_refl _)⟩, h4⟩
theorem marks_set (n : Int) : setB (marksTo n 4) = true := by
  have h0 : ∀ b0 b1 b2 b3 : Bool, setB ((((if b0 then [four.getD 0 ByteArray.empty] else []) ++ (if b1 then [four.getD 1 ByteArray.empty] else [])) ++ (if b2 then [four.getD 2 ByteArray.empty] else [])) ++ (if b3 then [four.getD 3 ByteArray.empty] else [])) = true := by decide +kernel
  have e : marksTo n 4 = ((((if bit n 0 then [four.getD 0 ByteArray.empty] else []) ++ (if bit n 1 then [four.getD 1 ByteArray.empty] else [])) ++ (if bit n 2 then [four.getD 2 ByteArray.empty] else [])) ++ (if bit n 3 then [four.getD 3 ByteArray.empty] else [])) := by
    simp only [marksTo]
    split <;> split <;> split <;> split <;> simp
  rw [e]
  exact h0 _ _ _ _
theorem name_ok (x : Int) : isName (nameAt x) = true := by
  have h0 : ∀ s ∈ names, isName s = true := by decide +kernel
  exact h0 _ (nameAt_mem x)
theorem node_ok (x n cpu mem : Int) (hc : 0 ≤ cpu ∧ cpu < 12) (hm : 0 ≤ mem ∧ mem < 12) : nodeE (nameAt x) cpu mem (nodeXs n) (nodeYs n) = 0 := by
  have e2 : sizeB cpu mem = true := by unfold sizeB; simp; omega
  have e3 : setB (nodeYs n) = true := by
    unfold nodeYs
    split
    · exact marks_set _
    · rfl
  unfold nodeE askE
  rw [name_ok, e2, e3, show setB (nodeXs n) = true from marks_set _]; rfl

set_option maxRecDepth 100000 in
set_option maxHeartbeats 4000000 in
theorem lNode_is (x n : Int) (w : World) :
    Calls Tryd.prog 18 #[.int .i64 x, .int .i64 n] w fun e w' => ∃ a1 c1 a2 c2, e = .returned (.agg #[.string (nameAt x), .int .i64 (n % 12), .int .i64 (wrap64 (n.tdiv 12) % 12), .slice a1 (nodeXs n).length c1, .slice a2 (nodeYs n).length c2, .bool (wrap64 (n.tdiv 17) % 9 == 0)]) ∧
      GoodSet w.heap.size w' a1 c1 (nodeXs n) ∧ GoodSet w.heap.size w' a2 c2 (nodeYs n) ∧ Below w.heap.size w w' := by
  obtain ⟨s, hs⟩ : ∃ s, nameAt x = s := ⟨_, rfl⟩
  rw [hs]
  go_enter Tryd.func18, Tryd.ntmps18
  obtain ⟨t12, h12⟩ : ∃ t, wrap64 (n.tdiv 12) = t := ⟨_, rfl⟩
  obtain ⟨t17, h17⟩ : ∃ t, wrap64 (n.tdiv 17) = t := ⟨_, rfl⟩
  obtain ⟨t23, h23⟩ : ∃ t, wrap64 (n.tdiv 23) = t := ⟨_, rfl⟩
  obtain ⟨t31, h31⟩ : ∃ t, wrap64 (n.tdiv 31) = t := ⟨_, rfl⟩
  obtain ⟨t144, h144⟩ : ∃ t, wrap64 (n.tdiv 144) = t := ⟨_, rfl⟩
  obtain ⟨k, hk⟩ : ∃ k, t23 % 3 = k := ⟨_, rfl⟩
  obtain ⟨xs, hxs⟩ : ∃ xs, marksTo t144 4 = xs := ⟨_, rfl⟩
  have ex : nodeXs n = xs := by unfold nodeXs; rw [h144, hxs]
  obtain ⟨ys, hys⟩ : ∃ ys, (if k = 0 then marksTo t31 4 else []) = ys := ⟨_, rfl⟩
  have ey : nodeYs n = ys := by unfold nodeYs; rw [h23, h31, hk, hys]
  rw [ex, ey, h12, h17]
  clear ex ey
  by_cases hk0 : k = 0
  · subst hk0
    rw [if_pos rfl] at hys
    go_wp2_with (first
      | (go_at_call 19; refine (lName_is _ s _ _ (Below.refl _ _) hs).mono ?_; rintro e w1 ⟨rfl, hb1⟩
         have hR1 : NBox w1 w.heap.size _ _ _ _ _ _ := NBox.later (NBox.new w _ _ _ _ _ _) hb1
         have b1 := (up (Below.refl w.heap.size w) _).trans (hb1.mono (up (Below.refl w.heap.size w) _).size))
      | (go_at_call_of 31 (Value.int .i64 3); refine (within3_any _ _ _ (by decide) (by decide) hk _).mono ?_; rintro e w2 ⟨rfl, rfl⟩)
      | (go_at_call 31; refine (within3_any _ _ _ (by decide) (by decide) rfl _).mono ?_; rintro e w2 ⟨rfl, rfl⟩)
      | (go_at_call_of 32 (Value.int .i64 t144); refine (lSet_is _ xs hxs _).mono ?_; rintro e w2 ⟨a1, c1, rfl, hg1, hb2⟩
         have hR2 := hR1.later hb2
         have b2 := b1.trans (hb2.mono b1.size))
      | (go_at_call_of 32 (Value.int .i64 t31); refine (lSet_is _ ys hys _).mono ?_; rintro e w3 ⟨a2, c2, rfl, hg2, hb3⟩
         have hX3 := NBox.later (NBox.new _ _ _ _ _ _ _) hb3
         have hR3 := (hR2.later (up (Below.refl _ _) _)).later hb3
         have hg3 := (hg1.later (up (Below.refl _ _) _)).later hb3
         have b3 := (up b2 _).trans (hb3.mono (up b2 _).size)
         obtain ⟨y0, y1, y2, y3, y4, y5⟩ := hX3.cells
         obtain ⟨r0, r1, r2, r3, r4, r5⟩ := hR3.cells
         have fx := hX3.frozen 4
         have fr0 := hR3.frozen 0
         have fr1 := hR3.frozen 1
         have fr2 := hR3.frozen 2
         have fr3 := hR3.frozen 3
         have fr4 := hR3.frozen 4
         have fr5 := hR3.frozen 5
         have hlt := (Array.getElem?_eq_some_iff.1 hR2).1
         have ne1 : w.heap.size ≠ w2.heap.size := by omega
         have ne2 : w2.heap.size ≠ w.heap.size := by omega
         clear hX3 hR3 hR2 hR1 hlt))
    have b1s := hb1.size
    have b2s := hb2.size
    have b3s := hb3.size
    have e1 : ∀ x, a1 = some x → x.block ≠ w.heap.size := fun x hx e => by have := (hg1.new.2.1 x hx).1; simp at b1s; omega
    have e2 : ∀ x, a1 = some x → x.block ≠ w2.heap.size := fun x hx e => by have := (hg1.new.2.1 x hx).2; omega
    have e3 : ∀ x, a2 = some x → x.block ≠ w.heap.size := fun x hx e => by have q1 := (hg2.new.2.1 x hx).1; have q2 := b2.size; simp at q1; omega
    have e4 : ∀ x, a2 = some x → x.block ≠ w2.heap.size := fun x hx e => by have := (hg2.new.2.1 x hx).1; simp at this; omega
    have le2 := b2.size
    refine bodyPost_ret (by simp [results, Tryd.results18, go_sem, r0, r1, r2, r3, r4, r5]) rfl ⟨a1, c1, a2, c2, rfl, ?_, ?_, ?_⟩
    · exact (((((((hg3.low (by have := b1.size; omega)).put e2 4 _).put e1 0 _).put e1 1 _).put e1 2 _).put e1 3 _).put e1 4 _).put e1 5 _
    · exact (((((((hg2.low (by simp; omega)).put e4 4 _).put e3 0 _).put e3 1 _).put e3 2 _).put e3 3 _).put e3 4 _).put e3 5 _
    · exact ((((((b3.setCell (p := ⟨w2.heap.size, 4, none⟩) le2 _).setCell (p := ⟨w.heap.size, 0, none⟩) (Nat.le_refl _) _).setCell (p := ⟨w.heap.size, 1, none⟩) (Nat.le_refl _) _).setCell (p := ⟨w.heap.size, 2, none⟩) (Nat.le_refl _) _).setCell (p := ⟨w.heap.size, 3, none⟩) (Nat.le_refl _) _).setCell (p := ⟨w.heap.size, 4, none⟩) (Nat.le_refl _) _).setCell (p := ⟨w.heap.size, 5, none⟩) (Nat.le_refl _) _
  · have hkb : (k == 0) = false := by simp [hk0]
    rw [if_neg hk0] at hys
    subst hys
    go_wp2_with (first
      | (go_at_call 19; refine (lName_is _ s _ _ (Below.refl _ _) hs).mono ?_; rintro e w1 ⟨rfl, hb1⟩
         have hR1 : NBox w1 w.heap.size _ _ _ _ _ _ := NBox.later (NBox.new w _ _ _ _ _ _) hb1
         have b1 := (up (Below.refl w.heap.size w) _).trans (hb1.mono (up (Below.refl w.heap.size w) _).size))
      | (go_at_call_of 31 (Value.int .i64 3); refine (within3_any _ _ _ (by decide) (by decide) hk _).mono ?_; rintro e w2 ⟨rfl, rfl⟩)
      | (go_at_call 31; refine (within3_any _ _ _ (by decide) (by decide) rfl _).mono ?_; rintro e w2 ⟨rfl, rfl⟩)
      | (go_at_call_of 32 (Value.int .i64 t144); refine (lSet_is _ xs hxs _).mono ?_; rintro e w2 ⟨a1, c1, rfl, hg1, hb2⟩
         have hR2 := hR1.later hb2
         have b2 := b1.trans (hb2.mono b1.size)
         obtain ⟨r0, r1, r2, r3, r4, r5⟩ := hR2.cells
         have fr0 := hR2.frozen 0
         have fr1 := hR2.frozen 1
         have fr2 := hR2.frozen 2
         have fr3 := hR2.frozen 3
         have fr4 := hR2.frozen 4
         have fr5 := hR2.frozen 5
         have hlt := (Array.getElem?_eq_some_iff.1 hR2).1
         have hltn := hlt
         clear hR1 hR2))
    have b1s := hb1.size
    have e1 : ∀ x, a1 = some x → x.block ≠ w.heap.size := fun x hx e => by have q1 := (hg1.new.2.1 x hx).1; simp at b1s; omega
    refine bodyPost_ret (by simp [results, Tryd.results18, go_sem, r0, r1, r2, r3, r4, r5, hltn]) rfl ⟨a1, c1, none, 0, rfl, ?_, GoodSet.nil _ _, ?_⟩
    · exact ((((((((hg1.low (by have := b1.size; omega)).put e1 0 _).put e1 1 _).put e1 2 _).put e1 3 _).put e1 4 _).put e1 5 _).later (up (Below.refl _ _) _))
    · exact up ((((((b2.setCell (p := ⟨w.heap.size, 0, none⟩) (Nat.le_refl _) _).setCell (p := ⟨w.heap.size, 1, none⟩) (Nat.le_refl _) _).setCell (p := ⟨w.heap.size, 2, none⟩) (Nat.le_refl _) _).setCell (p := ⟨w.heap.size, 3, none⟩) (Nat.le_refl _) _).setCell (p := ⟨w.heap.size, 4, none⟩) (Nat.le_refl _) _).setCell (p := ⟨w.heap.size, 5, none⟩) (Nat.le_refl _) _) _

end Go.Proofs.YtmldpihjndafaabDoor
