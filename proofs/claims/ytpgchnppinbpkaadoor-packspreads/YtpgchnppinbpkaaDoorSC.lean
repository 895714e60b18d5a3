/- The contracts of package score: hundredths, rest, Left. -/
import Derived.Test.YtpgchnppinbpkaaDoorVE
import Derived.Test.YtpgchnppinbpkaaDoorLA
import Derived.Test.YtpgchnppinbpkaaDoorBX
namespace Go.Proofs.YtpgchnppinbpkaaDoor
open Go.RowKit

/-- So many hundredths. -/
def hun (l c : Int) : Int := if c = 0 then 100 else 100 * l / c
/-- What is left, of both parts. -/
def leftF (c m u v x y : Int) : Int := hun (c - u - x) c + hun (m - v - y) m

theorem hun_le (l c : Int) (h0 : 0 ≤ l) (hl : l ≤ c) : 0 ≤ hun l c ∧ hun l c ≤ 100 := by
  unfold hun
  split
  · omega
  · rename_i h
    exact ⟨Int.ediv_nonneg (by omega) (by omega), Int.ediv_le_of_le_mul (by omega) (by omega)⟩

theorem hun_any (l c z : Int) (h0 : 0 ≤ l) (hl : l ≤ c) (hc : c ≤ 1099511627776) (hz : hun l c = z) (w : World) :
    Calls Tryd.prog 96 #[.int .i64 l, .int .i64 c] w fun e w' => e = .returned (.int .i64 z) ∧ w' = w := by
  have hb := hun_le l c h0 hl
  unfold hun at hz hb
  by_cases hc0 : c = 0
  · subst hc0
    obtain rfl : z = 100 := by simpa using hz.symm
    go_enter Tryd.func96, Tryd.ntmps96
    go_wp2
    go_ret
    exact ⟨rfl, rfl⟩
  · rw [if_neg hc0] at hz hb
    have e1 : wrap64 (100 * l) = 100 * l := by unfold wrap64; omega
    have e2 : wrap64 ((wrap64 (100 * l)).tdiv c) = z := by
      rw [e1, Int.tdiv_eq_ediv_of_nonneg (by omega), hz]
      unfold wrap64; omega
    have e3 : (c == 0) = false := by simp [hc0]
    clear hz hb e1 h0 hl hc
    go_enter Tryd.func96, Tryd.ntmps96
    go_wp2
    go_ret
    exact ⟨by rw [← e2]; rfl, rfl⟩

/-- These fit: what there is, what is used, what is needed. -/
def Good (c m u v x y : Int) : Prop := 0 ≤ u ∧ 0 ≤ v ∧ 0 ≤ x ∧ 0 ≤ y ∧ u + x ≤ c ∧ v + y ≤ m ∧ c ≤ 1099511627776 ∧ m ≤ 1099511627776

theorem leftF_le {c m u v x y : Int} (h : Good c m u v x y) : 0 ≤ leftF c m u v x y ∧ leftF c m u v x y ≤ 200 := by
  obtain ⟨h1, h2, h3, h4, h5, h6, h7, h8⟩ := h
  have a := hun_le (c - u - x) c (by omega) (by omega)
  have b := hun_le (m - v - y) m (by omega) (by omega)
  unfold leftF
  omega

set_option maxHeartbeats 1000000 in
theorem rest_any (c m u v x y l r : Int) (h : Good c m u v x y) (hl : c - u - x = l) (hr : m - v - y = r) (w : World) :
    Calls Tryd.prog 95 #[.agg #[.int .i64 c, .int .i64 m], .agg #[.int .i64 u, .int .i64 v], .agg #[.int .i64 x, .int .i64 y]] w fun e w' => e = .returned (.agg #[.int .i64 l, .int .i64 r]) ∧ Below w.heap.size w w' := by
  obtain ⟨h1, h2, h3, h4, h5, h6, h7, h8⟩ := h
  have k := fun W => add_ok u v x y (by simp; omega) (by simp; omega) (by simp [wrap64]; omega) W
  rw [show wrap64 (u + x) = u + x by unfold wrap64; omega, show wrap64 (v + y) = v + y by unfold wrap64; omega] at k
  have k2 := fun W => sub_ok c m (u + x) (v + y) (by simp; omega) (by simp; omega) (by simp; omega) W
  rw [show wrap64 (c - (u + x)) = l by unfold wrap64; omega, show wrap64 (m - (v + y)) = r by unfold wrap64; omega] at k2
  clear h1 h2 h3 h4 h5 h6 h7 h8 hl hr
  go_enter Tryd.func95, Tryd.ntmps95
  go_wp2_with (first
    | (go_at_call 33
       refine (k2 _).mono ?_
       rintro e w2 ⟨rfl, hb2⟩
       have hW2 := fin hb2 (up hW1 _)
       have p3 := (q3.up (V (u + x) (v + y))).later hb2
       clear c0 c1 q0 q3
       have z0 := p3.frozen 0
       have z1 := p3.frozen 1
       obtain ⟨c0, c1⟩ := p3.cells2
       have hlt := p3.lt)
    | (go_at_call 65
       refine (k _).mono ?_
       rintro e w1 ⟨rfl, hb1⟩
       have q0 : Box w1 w.heap.size #[.int .i64 c, .int .i64 m] 40 := ((((Box.new w _ _ rfl).up _).up _).up _).later hb1
       have q3 : Box w1 (w.heap.size + 1 + 1 + 1) #[.int .i64 0, .int .i64 0] 40 := (Box.new _ _ _ (by simp)).later hb1
       have hW1 : Below w.heap.size w w1 := fin hb1 (up (up (up (up (Below.refl _ _) _) _) _) _)
       clear hb1
       have hlt0 := q0.lt
       have hlt3 := q3.lt
       obtain ⟨c0, c1⟩ := q0.cells2))
  have pB := ((p3.set 0 (.int .i64 l)).set 1 (.int .i64 r)).up (V l r)
  have r0 := pB.cell (i := 0) rfl
  have r1 := pB.cell (i := 1) rfl
  refine bodyPost_ret (by simp [results, Tryd.results95, go_sem, r0, r1]) rfl ⟨rfl, ?_⟩
  exact up ((hW2.setCell (p := ⟨w.heap.size + 1 + 1 + 1, 0, none⟩) (by simp; omega) _).setCell (p := ⟨w.heap.size + 1 + 1 + 1, 1, none⟩) (by simp; omega) _) _

set_option maxHeartbeats 1000000 in
theorem left_any (c m u v x y z : Int) (h : Good c m u v x y) (hz : leftF c m u v x y = z) (w : World) :
    Calls Tryd.prog 80 #[.agg #[.int .i64 c, .int .i64 m], .agg #[.int .i64 u, .int .i64 v], .agg #[.int .i64 x, .int .i64 y]] w fun e w' => e = .returned (.int .i64 z) ∧ Below w.heap.size w w' := by
  obtain ⟨l, hl⟩ : ∃ l, c - u - x = l := ⟨_, rfl⟩
  obtain ⟨r, hr⟩ : ∃ r, m - v - y = r := ⟨_, rfl⟩
  have k := fun W => rest_any c m u v x y l r h hl hr W
  have hb := leftF_le h
  obtain ⟨h1, h2, h3, h4, h5, h6, h7, h8⟩ := h
  unfold leftF at hz hb
  rw [hl, hr] at hz hb
  obtain ⟨a, ha⟩ : ∃ a, hun l c = a := ⟨_, rfl⟩
  obtain ⟨b, hb'⟩ : ∃ b, hun r m = b := ⟨_, rfl⟩
  rw [ha, hb'] at hz hb
  have k1 := fun W => hun_any l c a (by omega) (by omega) h7 ha W
  have k2 := fun W => hun_any r m b (by omega) (by omega) h8 hb' W
  have e1 : IntKind.i64.wrap (a + b) = z := by rw [IntKind.wrap_i64]; omega
  clear h1 h2 h3 h4 h5 h6 h7 h8 hl hr hz hb ha hb'
  go_enter Tryd.func80, Tryd.ntmps80
  go_wp2_with (first
    | (go_at_call 95
       refine (k _).mono ?_
       rintro e w1 ⟨rfl, hb1⟩
       have q0 : Box w1 w.heap.size #[.int .i64 c, .int .i64 m] 40 := (((Box.new w _ _ rfl).up _).up _).later hb1
       have hW1 : Below w.heap.size w w1 := fin hb1 (up (up (up (Below.refl _ _) _) _) _)
       clear hb1
       have hlt := q0.lt
       obtain ⟨c0, c1⟩ := q0.cells2))
  have p0 := (q0.up (V l r)).cells2
  have p1 := (Box.new w1 #[.int .i64 l, .int .i64 r] 40 rfl).cells2
  have hW2 := up hW1 (V l r)
  have d0 : (w1.alloc (V l r)).drew.cell? ⟨w.heap.size, 0, none⟩ = some (.int .i64 c) := p0.1
  have d1 : (w1.alloc (V l r)).drew.cell? ⟨w.heap.size, 1, none⟩ = some (.int .i64 m) := p0.2
  have d2 : (w1.alloc (V l r)).drew.cell? ⟨w1.heap.size, 0, none⟩ = some (.int .i64 l) := p1.1
  have d3 : (w1.alloc (V l r)).drew.cell? ⟨w1.heap.size, 1, none⟩ = some (.int .i64 r) := p1.2
  clear p0 p1 c0 c1 q0
  go_region_held3 (fun w' => w'.cell? ⟨w.heap.size, 0, none⟩ = some (.int .i64 c) ∧ w'.cell? ⟨w.heap.size, 1, none⟩ = some (.int .i64 m) ∧ w'.cell? ⟨w1.heap.size, 0, none⟩ = some (.int .i64 l) ∧ w'.cell? ⟨w1.heap.size, 1, none⟩ = some (.int .i64 r))
    (exact ⟨by assumption, by assumption, by assumption, by assumption⟩)
    (first
      | (go_at_call_of 96 (Value.int .i64 l); refine (k1 _).mono ?_; rintro e w8 ⟨rfl, rfl⟩)
      | (go_at_call_of 96 (Value.int .i64 r); refine (k2 _).mono ?_; rintro e w8 ⟨rfl, rfl⟩)
      | fail)
  all_goals
    go_wp2
    go_ret
    exact ⟨by first | rfl | (rw [← e1]; rfl), hW2.drew⟩

end Go.Proofs.YtpgchnppinbpkaaDoor
