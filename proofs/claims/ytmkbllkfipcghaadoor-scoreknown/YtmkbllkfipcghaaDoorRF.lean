/- The contracts of the chapter's own part and Left. -/
import Derived.Test.YtmkbllkfipcghaaDoorSC
namespace Go.Proofs.YtmkbllkfipcghaaDoor
open Go.RowKit

theorem part_any (c u n z : Int) (h0 : 0 ≤ u) (h1 : 0 ≤ n) (hl : u + n ≤ c) (hc : c ≤ 1099511627776) (hz : hun (c - u - n) c = z) (w : World) :
    Calls Tryd.prog 16 #[.int .i64 c, .int .i64 u, .int .i64 n] w fun e w' => e = .returned (.int .i64 z) ∧ w' = w := by
  have hb := hun_le (c - u - n) c (by omega) (by omega)
  unfold hun at hz hb
  by_cases hc0 : c = 0
  · subst hc0
    obtain rfl : z = 100 := by simpa using hz.symm
    clear hz hb
    go_enter Tryd.func16, Tryd.ntmps16
    go_wp2
    go_ret
    exact ⟨rfl, rfl⟩
  · rw [if_neg hc0] at hz hb
    have e1 : wrap64 (c - u) = c - u := by unfold wrap64; omega
    have e2 : wrap64 (wrap64 (c - u) - n) = c - u - n := by rw [e1]; unfold wrap64; omega
    have e3 : wrap64 (100 * wrap64 (wrap64 (c - u) - n)) = 100 * (c - u - n) := by rw [e2]; unfold wrap64; omega
    have e4 : wrap64 ((wrap64 (100 * wrap64 (wrap64 (c - u) - n))).tdiv c) = z := by
      rw [e3, Int.tdiv_eq_ediv_of_nonneg (by omega), hz]
      unfold wrap64; omega
    have e5 : (c == 0) = false := by simp [hc0]
    clear hz hb e1 e2 e3 h0 h1 hl hc
    go_enter Tryd.func16, Tryd.ntmps16
    go_wp2
    go_ret
    exact ⟨by rw [← e4]; rfl, rfl⟩

set_option maxHeartbeats 1000000 in
theorem rLeft_any (c m u v x y z : Int) (h : Good c m u v x y) (hz : leftF c m u v x y = z) (w : World) :
    Calls Tryd.prog 10 #[.agg #[.int .i64 c, .int .i64 m], .agg #[.int .i64 u, .int .i64 v], .agg #[.int .i64 x, .int .i64 y]] w fun e w' => e = .returned (.int .i64 z) ∧ Below w.heap.size w w' := by
  have hb := leftF_le h
  obtain ⟨h1, h2, h3, h4, h5, h6, h7, h8⟩ := h
  unfold leftF at hz hb
  obtain ⟨a, ha⟩ : ∃ a, hun (c - u - x) c = a := ⟨_, rfl⟩
  obtain ⟨b, hb'⟩ : ∃ b, hun (m - v - y) m = b := ⟨_, rfl⟩
  rw [ha, hb'] at hz hb
  have k1 := fun W => part_any c u x a (by omega) (by omega) (by omega) h7 ha W
  have k2 := fun W => part_any m v y b (by omega) (by omega) (by omega) h8 hb' W
  have e1 : IntKind.i64.wrap (a + b) = z := by rw [IntKind.wrap_i64]; omega
  clear h1 h2 h3 h4 h5 h6 h7 h8 hz hb ha hb'
  go_enter Tryd.func10, Tryd.ntmps10
  go_wp2
  have p0 : Box (((w.alloc (V c m)).alloc (V u v)).alloc (V x y)) w.heap.size #[.int .i64 c, .int .i64 m] 25 := ((Box.new w _ _ rfl).up _).up _
  have p1 : Box (((w.alloc (V c m)).alloc (V u v)).alloc (V x y)) (w.heap.size + 1) #[.int .i64 u, .int .i64 v] 25 := (Box.new _ _ _ (by simp)).up _
  have p2 : Box (((w.alloc (V c m)).alloc (V u v)).alloc (V x y)) (w.heap.size + 1 + 1) #[.int .i64 x, .int .i64 y] 25 := Box.new _ _ _ (by simp)
  have hW := (up (up (up (Below.refl w.heap.size w) (V c m)) (V u v)) (V x y)).drew
  generalize ((w.alloc (V c m)).alloc (V u v)).alloc (V x y) = W at *
  generalize hBB : w.heap.size = B at *
  have d0 : W.drew.cell? ⟨B, 0, none⟩ = some (.int .i64 c) := p0.cells2.1
  have d1 : W.drew.cell? ⟨B, 1, none⟩ = some (.int .i64 m) := p0.cells2.2
  have d2 : W.drew.cell? ⟨B + 1, 0, none⟩ = some (.int .i64 u) := p1.cells2.1
  have d3 : W.drew.cell? ⟨B + 1, 1, none⟩ = some (.int .i64 v) := p1.cells2.2
  have d4 : W.drew.cell? ⟨B + 1 + 1, 0, none⟩ = some (.int .i64 x) := p2.cells2.1
  have d5 : W.drew.cell? ⟨B + 1 + 1, 1, none⟩ = some (.int .i64 y) := p2.cells2.2
  clear p0 p1 p2
  go_region_held3 (fun w' => w'.cell? ⟨B, 0, none⟩ = some (.int .i64 c) ∧ w'.cell? ⟨B, 1, none⟩ = some (.int .i64 m) ∧ w'.cell? ⟨B + 1, 0, none⟩ = some (.int .i64 u) ∧ w'.cell? ⟨B + 1, 1, none⟩ = some (.int .i64 v) ∧ w'.cell? ⟨B + 1 + 1, 0, none⟩ = some (.int .i64 x) ∧ w'.cell? ⟨B + 1 + 1, 1, none⟩ = some (.int .i64 y))
    (exact ⟨by assumption, by assumption, by assumption, by assumption, by assumption, by assumption⟩)
    (first
      | (go_at_call_of 16 (Value.int .i64 c); refine (k1 _).mono ?_; rintro e w8 ⟨rfl, rfl⟩)
      | (go_at_call_of 16 (Value.int .i64 m); refine (k2 _).mono ?_; rintro e w8 ⟨rfl, rfl⟩)
      | fail)
  all_goals
    go_wp2
    go_ret
    exact ⟨by first | rfl | (rw [← e1]; rfl), by rw [hBB]; exact hW⟩

end Go.Proofs.YtmkbllkfipcghaaDoor
