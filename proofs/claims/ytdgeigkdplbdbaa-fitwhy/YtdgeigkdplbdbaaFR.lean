/- The contracts of the chapter's own Right, Fits, Add and Why. -/
import Derived.Test.YtdgeigkdplbdbaaFY
namespace Go.Proofs.Ytdgeigkdplbdbaa
open Go.RowKit Go.Maps

/-- The block of a pair of numbers that is a variable. -/
def VBox (w : World) (B : Nat) (x y : Int) : Prop := w.heap[B]? = some (.cells #[.int .i64 x, .int .i64 y] 25 (0, 0))
section
variable {w w' : World} {B : Nat} {x y : Int}
theorem VBox.new (w : World) (x y : Int) (hB : w.heap.size = B) : VBox (w.alloc (V x y)) B x y := by subst hB; exact heap_alloc_new w _
theorem VBox.lt (h : VBox w B x y) : B < w.heap.size := (Array.getElem?_eq_some_iff.1 h).1
theorem VBox.later (h : VBox w B x y) (hb : Below w.heap.size w w') : VBox w' B x y := by
  have := h.lt
  unfold VBox at *
  rw [hb.block B this, h]
theorem VBox.cells (h : VBox w B x y) : w.cell? ⟨B, 0, none⟩ = some (.int .i64 x) ∧ w.cell? ⟨B, 1, none⟩ = some (.int .i64 y) := by
  unfold VBox at h
  simp [World.cell?, h]
theorem VBox.frozen (h : VBox w B x y) (j : Nat) : w.frozen? ⟨B, j, none⟩ = false := by
  unfold VBox at h; simp [World.frozen?, h]
end

theorem rRight_any (x y : Int) (hx : 0 ≤ x ∧ 0 ≤ y) (w : World) :
    Calls Try.prog 30 #[.agg #[.int .i64 x, .int .i64 y]] w fun e w' => e = .returned (.bool true) ∧ Below w.heap.size w w' := by
  obtain ⟨h1, h2⟩ := hx
  go_enter Try.func30, Try.ntmps30
  go_wp2
  go_ret
  exact ⟨rfl, up (Below.refl _ _) _⟩

theorem rFits_any (b : Bool) (x y u v : Int) (h : decide (x ≤ u ∧ y ≤ v) = b) (w : World) :
    Calls Try.prog 25 #[.agg #[.int .i64 x, .int .i64 y], .agg #[.int .i64 u, .int .i64 v]] w fun e w' => e = .returned (.bool b) ∧ Below w.heap.size w w' := by
  have e : b = (decide (x ≤ u) && decide (y ≤ v)) := by rw [← h, Bool.decide_and]
  clear h
  by_cases h1 : x ≤ u <;> by_cases h2 : y ≤ v <;> simp only [h1, h2, decide_true, decide_false, Bool.and_true, Bool.and_false, Bool.and_self] at e <;> subst e
  all_goals
    go_enter Try.func25, Try.ntmps25
    go_wp2
    go_ret
    exact ⟨rfl, up (up (Below.refl _ _) _) _⟩

set_option maxHeartbeats 800000 in
theorem rAdd_ok (x y u v : Int) (hx : 0 ≤ x ∧ 0 ≤ y) (hu : 0 ≤ u ∧ 0 ≤ v) (hf : x + u ≤ 9223372036854775807 ∧ y + v ≤ 9223372036854775807) (w : World) :
    Calls Try.prog 24 #[.agg #[.int .i64 x, .int .i64 y], .agg #[.int .i64 u, .int .i64 v]] w fun e w' => e = .returned (.tuple #[.agg #[.int .i64 (x + u), .int .i64 (y + v)], .int .i64 0]) ∧ Below w.heap.size w w' := by
  have k1 := fun W => rRight_any x y hx W
  have k2 := fun W => rRight_any u v hu W
  obtain ⟨f1, f2⟩ := hf
  obtain ⟨x0, y0⟩ := hx
  obtain ⟨u0, v0⟩ := hu
  have g1 : ¬ 9223372036854775807 - u < x := by omega
  have g2 : ¬ 9223372036854775807 - v < y := by omega
  go_enter Try.func24, Try.ntmps24
  go_wp2_with (first
    | (go_at_call_of 30 (Value.agg #[.int .i64 x, .int .i64 y]); refine (k1 _).mono ?_; rintro e w1 ⟨rfl, hb1⟩
       have q1 : VBox w1 w.heap.size x y := ((VBox.new w x y rfl).later (up (up (Below.refl _ _) _) _)).later hb1
       have q2 : VBox w1 (w.heap.size + 1) u v := ((VBox.new _ u v (by simp)).later (up (Below.refl _ _) _)).later hb1
       have q3 : VBox w1 (w.heap.size + 1 + 1) 0 0 := (VBox.new _ 0 0 (by simp)).later hb1
       have hW1 : Below w.heap.size w w1 := (up (up (up (Below.refl _ _) _) _) _).trans (hb1.mono (by simp; omega))
       have c0 := q1.cells
       have c1 := q2.cells)
    | (go_at_call_of 30 (Value.agg #[.int .i64 u, .int .i64 v]); refine (k2 _).mono ?_; rintro e w2 ⟨rfl, hb2⟩
       have hW2 := hW1.trans (hb2.mono hW1.size)
       clear c0 c1
       obtain ⟨c0, c1⟩ := (q1.later hb2).cells
       obtain ⟨c2, c3⟩ := (q2.later hb2).cells
       obtain ⟨c4, c5⟩ := (q3.later hb2).cells
       have z0 := (q3.later hb2).frozen 0
       have z1 := (q3.later hb2).frozen 1))
  refine bodyPost_ret (by simp [results, Try.results24, go_sem, c4, c5]) rfl ⟨rfl, ?_⟩
  exact (hW2.setCell (p := ⟨w.heap.size + 1 + 1, 0, none⟩) (by simp; omega) _).setCell (p := ⟨w.heap.size + 1 + 1, 1, none⟩) (by simp; omega) _

set_option maxHeartbeats 800000 in
theorem rAdd_room (x y u v : Int) (hx : 0 ≤ x ∧ 0 ≤ y) (hu : 0 ≤ u ∧ 0 ≤ v) (hm : u ≤ 9223372036854775807 ∧ v ≤ 9223372036854775807) (hf : ¬ (x + u ≤ 9223372036854775807 ∧ y + v ≤ 9223372036854775807)) (w : World) :
    Calls Try.prog 24 #[.agg #[.int .i64 x, .int .i64 y], .agg #[.int .i64 u, .int .i64 v]] w fun e w' => e = .returned (.tuple #[.agg #[.int .i64 0, .int .i64 0], .int .i64 6]) ∧ Below w.heap.size w w' := by
  have k1 := fun W => rRight_any x y hx W
  have k2 := fun W => rRight_any u v hu W
  obtain ⟨x0, y0⟩ := hx
  obtain ⟨u0, v0⟩ := hu
  obtain ⟨u1, v1⟩ := hm
  rcases (by omega : 9223372036854775807 - u < x ∨ (¬ 9223372036854775807 - u < x ∧ 9223372036854775807 - v < y)) with g1 | ⟨g1, g2⟩
  all_goals
    clear hf
    go_enter Try.func24, Try.ntmps24
    go_wp2_with (first
      | (go_at_call_of 30 (Value.agg #[.int .i64 x, .int .i64 y]); refine (k1 _).mono ?_; rintro e w1 ⟨rfl, hb1⟩
         have q1 : VBox w1 w.heap.size x y := ((VBox.new w x y rfl).later (up (up (Below.refl _ _) _) _)).later hb1
         have q2 : VBox w1 (w.heap.size + 1) u v := ((VBox.new _ u v (by simp)).later (up (Below.refl _ _) _)).later hb1
         have q3 : VBox w1 (w.heap.size + 1 + 1) 0 0 := (VBox.new _ 0 0 (by simp)).later hb1
         have hW1 : Below w.heap.size w w1 := (up (up (up (Below.refl _ _) _) _) _).trans (hb1.mono (by simp; omega))
         have c0 := q1.cells
         have c1 := q2.cells)
      | (go_at_call_of 30 (Value.agg #[.int .i64 u, .int .i64 v]); refine (k2 _).mono ?_; rintro e w2 ⟨rfl, hb2⟩
         have hW2 := hW1.trans (hb2.mono hW1.size)
         clear c0 c1
         obtain ⟨c0, c1⟩ := (q1.later hb2).cells
         obtain ⟨c2, c3⟩ := (q2.later hb2).cells
         obtain ⟨c4, c5⟩ := (q3.later hb2).cells
         have z0 := (q3.later hb2).frozen 0
         have z1 := (q3.later hb2).frozen 1))
    refine bodyPost_ret (by simp [results, Try.results24, go_sem, c4, c5]) rfl ⟨rfl, ?_⟩
    exact (hW2.setCell (p := ⟨w.heap.size + 1 + 1, 0, none⟩) (by simp; omega) _).setCell (p := ⟨w.heap.size + 1 + 1, 1, none⟩) (by simp; omega) _

set_option maxRecDepth 100000 in
set_option maxHeartbeats 4000000 in
theorem rWhy_any (s : ByteArray) (sh cpu mem : Int) (pa : Option Addr) (pn pc : Nat) (ba : Option Addr) (bn bc : Nat) (al : Bool) (t : ByteArray) (cc cm : Int) (ma : Option Addr) (mn mc : Nat) (ta : Option Addr) (tn tc : Nat) (cl : Bool) (u v : Int) (la : Option Addr) (ln lc : Nat)
    (ps bs ms ts : List ByteArray) (l : List PlaceT) (a1 a2 rm : Bool) (w : World) (hpn : ps.length = pn) (hbn : bs.length = bn) (hmn : ms.length = mn) (htn : ts.length = tn) (hln : l.length = ln)
    (hp : Strs w pa ps) (hb : Strs w ba bs) (hm : Strs w ma ms) (ht : Strs w ta ts) (hl : Places w la l)
    (hx : 0 ≤ cpu ∧ 0 ≤ mem ∧ 0 ≤ u ∧ 0 ≤ v) (hy : cpu ≤ 9223372036854775807 ∧ mem ≤ 9223372036854775807) (h1 : allB ps ms = a1) (h2 : allB ts bs = a2) (h3 : roomB u v cpu mem cc cm = rm) :
    Calls Try.prog 16 #[.agg #[.string s, .int .i64 sh, .int .i64 cpu, .int .i64 mem, .slice pa pn pc, .slice ba bn bc, .bool al], .agg #[.string t, .int .i64 cc, .int .i64 cm, .slice ma mn mc, .slice ta tn tc, .bool cl], .agg #[.int .i64 u, .int .i64 v], .slice la ln lc] w
      fun e w' => e = .returned (.int .i64 (whyN cl a1 a2 rm al l)) ∧ Below w.heap.size w w' := by
  have hT := three_new w s sh cpu mem (.slice pa pn pc) (.slice ba bn bc) al t cc cm (.slice ma mn mc) (.slice ta tn tc) cl u v
  have hW : Below w.heap.size w (((w.alloc (.cells #[.string s, .int .i64 sh, .int .i64 cpu, .int .i64 mem, .slice pa pn pc, .slice ba bn bc, .bool al] 28)).alloc (.cells #[.string t, .int .i64 cc, .int .i64 cm, .slice ma mn mc, .slice ta tn tc, .bool cl] 31)).alloc (.cells #[.int .i64 u, .int .i64 v] 25)) := up (up (up (Below.refl _ _) _) _) _
  have k1 := fun W (hB : Below w.heap.size w W) => rAll_any pa pc ps ma mc ms W (hp.later hB) (hm.later hB)
  have k2 := fun W (hB : Below w.heap.size w W) => rAll_any ta tc ts ba bc bs W (ht.later hB) (hb.later hB)
  have hlw := fun W (hB : Below w.heap.size w W) => hl.later hB
  have hll := hl.1
  rw [hpn, hmn, h1] at k1
  rw [htn, hbn, h2] at k2
  clear hp hb hm ht h1 h2 hpn hbn hmn htn hl
  obtain ⟨R, hR⟩ : ∃ R, whyN cl a1 a2 rm al l = R := ⟨_, rfl⟩
  rw [hR]
  cases cl
  case true =>
    clear k1 k2
    obtain rfl : R = 1 := by rw [← hR]; rfl
    go_enter Try.func16, Try.ntmps16
    go_wp2
    go_ret
    exact ⟨rfl, hW⟩
  cases a1
  case false =>
    clear k2
    obtain rfl : R = 2 := by rw [← hR]; rfl
    go_enter Try.func16, Try.ntmps16
    go_wp2_with (go_at_call 18; refine (k1 _ hW).mono ?_; rintro e w1 ⟨rfl, rfl⟩)
    go_ret
    exact ⟨rfl, hW⟩
  cases a2
  case false =>
    obtain rfl : R = 3 := by rw [← hR]; rfl
    go_enter Try.func16, Try.ntmps16
    go_wp2_with (first
      | (go_at_call_of 18 (Value.slice pa pn pc); refine (k1 _ hW).mono ?_; rintro e w1 ⟨rfl, rfl⟩)
      | (go_at_call_of 18 (Value.slice ta tn tc); refine (k2 _ hW).mono ?_; rintro e w2 ⟨rfl, rfl⟩))
    go_ret
    exact ⟨rfl, hW⟩
  by_cases hf : u + cpu ≤ 9223372036854775807 ∧ v + mem ≤ 9223372036854775807
  · have hq : decide (u + cpu ≤ cc ∧ v + mem ≤ cm) = rm := by rw [← h3]; unfold roomB; rw [decide_eq_decide]; omega
    have k3 := fun W => rAdd_ok u v cpu mem (by omega) (by omega) hf W
    have k4 := fun W => rFits_any rm _ _ _ _ hq W
    clear hq h3 hx hy hf
    cases rm
    case false =>
      obtain rfl : R = 4 := by rw [← hR]; rfl
      go_enter Try.func16, Try.ntmps16
      go_wp2_with (first
        | (go_at_call_of 18 (Value.slice pa pn pc); refine (k1 _ hW).mono ?_; rintro e w1 ⟨rfl, rfl⟩)
        | (go_at_call_of 18 (Value.slice ta tn tc); refine (k2 _ hW).mono ?_; rintro e w2 ⟨rfl, rfl⟩)
        | (go_at_call 24; refine (k3 _).mono ?_; rintro e w3 ⟨rfl, hb3⟩
           have hW3 := hW.trans (hb3.mono hW.size)
           have hT3 := hT.later hb3
           have hz2 := (Array.getElem?_eq_some_iff.1 hT3.used).1
           have hz0 : w.heap.size < w3.heap.size := by omega
           have hz1 : w.heap.size + 1 < w3.heap.size := by omega
           obtain ⟨c0, c1, c2, c3, c4, c5, c6, c7, c8, c9, c10, c11⟩ := hT3.cells)
        | (go_at_call 25; refine (k4 _).mono ?_; rintro e w4 ⟨rfl, hb4⟩
           have hW4 := (up hW3 _).trans (hb4.mono (up hW3 _).size)
           have hT4 := (hT3.later (up (Below.refl _ _) _)).later hb4
           clear c0 c1 c2 c3 c4 c5 c6 c7 c8 c9 c10 c11
           obtain ⟨c0, c1, c2, c3, c4, c5, c6, c7, c8, c9, c10, c11⟩ := hT4.cells))
      go_ret
      exact ⟨rfl, hW4⟩
    by_cases hal : al = true ∧ 0 < ln
    · obtain ⟨rfl, hl0⟩ := hal
      have i0 : (0 : Int) < ln := by omega
      obtain rfl : R = 5 := by rw [← hR]; unfold whyN; rw [show decide (0 < l.length) = true by rw [hln]; exact decide_eq_true hl0]; rfl
      go_enter Try.func16, Try.ntmps16
      go_wp2_with (first
        | (go_at_call_of 18 (Value.slice pa pn pc); refine (k1 _ hW).mono ?_; rintro e w1 ⟨rfl, rfl⟩)
        | (go_at_call_of 18 (Value.slice ta tn tc); refine (k2 _ hW).mono ?_; rintro e w2 ⟨rfl, rfl⟩)
        | (go_at_call 24; refine (k3 _).mono ?_; rintro e w3 ⟨rfl, hb3⟩
           have hW3 := hW.trans (hb3.mono hW.size)
           have hT3 := hT.later hb3
           have hz2 := (Array.getElem?_eq_some_iff.1 hT3.used).1
           have hz0 : w.heap.size < w3.heap.size := by omega
           have hz1 : w.heap.size + 1 < w3.heap.size := by omega
           obtain ⟨c0, c1, c2, c3, c4, c5, c6, c7, c8, c9, c10, c11⟩ := hT3.cells)
        | (go_at_call 25; refine (k4 _).mono ?_; rintro e w4 ⟨rfl, hb4⟩
           have hW4 := (up hW3 _).trans (hb4.mono (up hW3 _).size)
           have hT4 := (hT3.later (up (Below.refl _ _) _)).later hb4
           clear c0 c1 c2 c3 c4 c5 c6 c7 c8 c9 c10 c11
           obtain ⟨c0, c1, c2, c3, c4, c5, c6, c7, c8, c9, c10, c11⟩ := hT4.cells))
      go_ret
      exact ⟨rfl, hW4⟩
    · have hR2 : R = if l.any (·.al) then 6 else 0 := by
        rw [← hR]
        unfold whyN
        cases al
        · simp
        · have : ln = 0 := by simpa using hal
          simp [hln, this]
      rcases (by cases al; exact .inl rfl; exact .inr ⟨rfl, by simpa using hal⟩ : al = false ∨ (al = true ∧ ln = 0)) with rfl | ⟨rfl, rfl⟩
      all_goals
        clear hR hal
        go_enter Try.func16, Try.ntmps16
        go_wp2_with (first
          | (go_at_call_of 18 (Value.slice pa pn pc); refine (k1 _ hW).mono ?_; rintro e w1 ⟨rfl, rfl⟩)
          | (go_at_call_of 18 (Value.slice ta tn tc); refine (k2 _ hW).mono ?_; rintro e w2 ⟨rfl, rfl⟩)
          | (go_at_call 24; refine (k3 _).mono ?_; rintro e w3 ⟨rfl, hb3⟩
             have hW3 := hW.trans (hb3.mono hW.size)
             have hT3 := hT.later hb3
             have hz2 := (Array.getElem?_eq_some_iff.1 hT3.used).1
             have hz0 : w.heap.size < w3.heap.size := by omega
             have hz1 : w.heap.size + 1 < w3.heap.size := by omega
             obtain ⟨c0, c1, c2, c3, c4, c5, c6, c7, c8, c9, c10, c11⟩ := hT3.cells)
          | (go_at_call 25; refine (k4 _).mono ?_; rintro e w4 ⟨rfl, hb4⟩
             have hW4 := (up hW3 _).trans (hb4.mono (up hW3 _).size)
             have hT4 := (hT3.later (up (Below.refl _ _) _)).later hb4
             clear c0 c1 c2 c3 c4 c5 c6 c7 c8 c9 c10 c11
             obtain ⟨c0, c1, c2, c3, c4, c5, c6, c7, c8, c9, c10, c11⟩ := hT4.cells))
        clear k1 k2 k3 k4 hT hT3 hT4 c0 c1 c2 c3 c4 c5 c6 c7 c8 c9 c10 c11 hb3 hb4 hW hW3 hz0 hz1 hz2
        go_loopw [11] (fun i wr => ∃ k : Nat, k ≤ l.length ∧ i = .int .i64 k ∧ (l.take k).any (·.al) = false ∧ Below w.heap.size w wr) (fun i _ => l.length - (intOf i).toNat)
        case atStart => exact ⟨0, Nat.zero_le _, rfl, by simp, hW4⟩
        case round =>
          obtain ⟨k, hk, rfl, hno, hbw⟩ := hrel
          by_cases hlt : k < l.length
          · obtain ⟨B, o, rfl, hat⟩ := (hlw wr hbw).2 k _ (List.getElem?_eq_getElem hlt)
            have hst := any_take hlt
            rw [hno, Bool.false_or] at hst
            have hany : l[k].al = true → l.any (·.al) = true := fun h => List.any_eq_true.2 ⟨_, List.getElem_mem hlt, h⟩
            obtain ⟨p, hp⟩ : ∃ p, l[k] = p := ⟨_, rfl⟩
            rw [hp] at hat hst hany
            obtain ⟨pd, nd, c, m, b⟩ := p
            obtain ⟨d0, d1, d2, d3, d4⟩ := hat
            simp only at d0 d1 d2 d3 d4 hst hany
            have i1 : (k : Int) < l.length := by omega
            try rw [hln] at i1 hk hlt hll
            clear hlw hp hno
            first
            | (exfalso; clear hR2 hany hst; omega)
            | (cases b
               · clear hany
                 go_wp2
                 go_roundw
                 case rel => exact ⟨k + 1, by omega, by go_num, hst, hbw⟩
                 case measure => simp [intOf]; omega
               · have hR3 : R = 6 := by rw [hR2, hany rfl]; rfl
                 subst hR3
                 clear hany hR2
                 go_wp2
                 go_ret
                 exact ⟨rfl, hbw⟩)
          · have hR3 : R = 0 := by
              rw [hR2]
              rw [List.take_of_length_le (by omega)] at hno
              rw [hno]; rfl
            have i1 : ¬ (k : Int) < l.length := by omega
            try rw [hln] at i1 hk hlt hll
            subst hR3
            clear hlw hno hR2
            go_wp2
            go_ret
            exact ⟨rfl, hbw⟩
  · obtain rfl : rm = false := by rw [← h3]; unfold roomB; simp; omega
    obtain rfl : R = 4 := by rw [← hR]; rfl
    have k3 := fun W => rAdd_room u v cpu mem (by omega) (by omega) hy hf W
    clear h3 hx hy hf
    go_enter Try.func16, Try.ntmps16
    go_wp2_with (first
      | (go_at_call_of 18 (Value.slice pa pn pc); refine (k1 _ hW).mono ?_; rintro e w1 ⟨rfl, rfl⟩)
      | (go_at_call_of 18 (Value.slice ta tn tc); refine (k2 _ hW).mono ?_; rintro e w2 ⟨rfl, rfl⟩)
      | (go_at_call 24; refine (k3 _).mono ?_; rintro e w3 ⟨rfl, hb3⟩
         have hW3 := hW.trans (hb3.mono hW.size)
         obtain ⟨c0, c1, c2, c3, c4, c5, c6, c7, c8, c9, c10, c11⟩ := (hT.later hb3).cells))
    go_ret
    exact ⟨rfl, up hW3 _⟩

end Go.Proofs.Ytdgeigkdplbdbaa
