/- The contracts of the statements' own three and known. -/
import Derived.Test.YtmkbllkfipcghaaDoorBE
import Derived.Test.YtmkbllkfipcghaaDoorRZ
import Derived.Deep.DeepCutAuto
namespace Go.Proofs.YtmkbllkfipcghaaDoor
open Go.RowKit

/-- What each operation of the last statement of three leaves. -/
def threeF (B U : Nat) (x y u v p q e f : Int) : Nat → Value → World → Prop
  | 0, z, _ => z = .agg #[.int .i64 x, .int .i64 y]
  | 1, z, _ => z = .agg #[.int .i64 u, .int .i64 v]
  | 2, z, _ => z = .int .i64 e
  | 3, z, _ => z = .pointer (some ⟨(B + 1 + 1 + 1), 0, none⟩)
  | 4, z, _ => z = .int .i64 x
  | 5, z, _ => z = .pointer (some ⟨U, 0, none⟩)
  | 6, z, _ => z = .int .i64 u
  | 7, z, _ => z = .int .i64 (x - u)
  | 8, z, _ => z = .int .i64 (x - u + 1)
  | 9, z, _ => z = .int .i64 p
  | 10, z, _ => z = .int .i64 f
  | 11, z, _ => z = .pointer (some ⟨(B + 1 + 1 + 1), 1, none⟩)
  | 12, z, _ => z = .int .i64 y
  | 13, z, _ => z = .pointer (some ⟨U, 1, none⟩)
  | 14, z, _ => z = .int .i64 v
  | 15, z, _ => z = .int .i64 (y - v)
  | 16, z, _ => z = .int .i64 (y - v + 1)
  | 17, z, _ => z = .int .i64 q
  | 18, z, _ => z = .agg #[.int .i64 p, .int .i64 q]
  | 19, _, w => Box w B #[.int .i64 x, .int .i64 y] 25
  | 20, _, w => Box w (B + 1) #[.int .i64 u, .int .i64 v] 25
  | 21, _, w => Box w (B + 1 + 1) #[.int .i64 p, .int .i64 q] 25
  | _, _, _ => True
/-- The blocks that all of them leave there. -/
structure ThreeR (B U : Nat) (x y u v : Int) (w0 w : World) : Prop where
  bx : Box w (B + 1 + 1 + 1) #[.int .i64 x, .int .i64 y] 25
  bu : Box w U #[.int .i64 u, .int .i64 v] 25
  r0 : ∃ s t, Box w B #[s, t] 25
  r1 : ∃ s t, Box w (B + 1) #[s, t] 25
  r2 : ∃ s t, Box w (B + 1 + 1) #[s, t] 25
  bel : Below B w0 w
/-- What was stored stays. -/
structure ThreeS (B : Nat) (x y u v p q : Int) (w w' : World) : Prop where
  s0 : Box w B #[.int .i64 x, .int .i64 y] 25 → Box w' B #[.int .i64 x, .int .i64 y] 25
  s1 : Box w (B + 1) #[.int .i64 u, .int .i64 v] 25 → Box w' (B + 1) #[.int .i64 u, .int .i64 v] 25
  s2 : Box w (B + 1 + 1) #[.int .i64 p, .int .i64 q] 25 → Box w' (B + 1 + 1) #[.int .i64 p, .int .i64 q] 25
theorem ThreeS.refl (B : Nat) (x y u v p q : Int) (w : World) : ThreeS B x y u v p q w w := ⟨id, id, id⟩

set_option maxRecDepth 100000 in
set_option maxHeartbeats 8000000 in
theorem three_any (a b c d e f m : Int) (x y u v p q : Int) (hm : 0 < m) (hm2 : m ≤ 1099511627777) (hx : a % m = x) (hy : b % m = y) (hu : c % (x + 1) = u) (hv : d % (y + 1) = v) (hp : e % (x - u + 1) = p) (hq : f % (y - v + 1) = q) (w : World) :
    Calls Tryd.prog 7 #[.int .i64 a, .int .i64 b, .int .i64 c, .int .i64 d, .int .i64 e, .int .i64 f, .int .i64 m] w fun e w' =>
      e = .returned (.tuple #[.agg #[.int .i64 x, .int .i64 y], .agg #[.int .i64 u, .int .i64 v], .agg #[.int .i64 p, .int .i64 q]]) ∧ Below w.heap.size w w' := by
  have x0 : 0 ≤ x := by rw [← hx]; exact Int.emod_nonneg _ (by omega)
  have x1 : x < m := by rw [← hx]; exact Int.emod_lt_of_pos _ (by omega)
  have y0 : 0 ≤ y := by rw [← hy]; exact Int.emod_nonneg _ (by omega)
  have y1 : y < m := by rw [← hy]; exact Int.emod_lt_of_pos _ (by omega)
  have u0 : 0 ≤ u := by rw [← hu]; exact Int.emod_nonneg _ (by omega)
  have u1 : u < x + 1 := by rw [← hu]; exact Int.emod_lt_of_pos _ (by omega)
  have v0 : 0 ≤ v := by rw [← hv]; exact Int.emod_nonneg _ (by omega)
  have v1 : v < y + 1 := by rw [← hv]; exact Int.emod_lt_of_pos _ (by omega)
  have k1 := fun W => within6_any a m x hm (by omega) hx W
  have k2 := fun W => within6_any b m y hm (by omega) hy W
  have k3 := fun W => within6_any c (x + 1) u (by omega) (by omega) hu W
  have k4 := fun W => within6_any d (y + 1) v (by omega) (by omega) hv W
  have k5 := fun W => within6_any e (x - u + 1) p (by omega) (by omega) hp W
  have k6 := fun W => within6_any f (y - v + 1) q (by omega) (by omega) hq W
  have g1 : IntKind.i64.wrap (x + 1) = x + 1 := by rw [IntKind.wrap_i64]; omega
  have g2 : IntKind.i64.wrap (y + 1) = y + 1 := by rw [IntKind.wrap_i64]; omega
  have g3 : IntKind.i64.wrap (x - u) = x - u := by rw [IntKind.wrap_i64]; omega
  have g4 : IntKind.i64.wrap (y - v) = y - v := by rw [IntKind.wrap_i64]; omega
  have g5 : IntKind.i64.wrap (x - u + 1) = x - u + 1 := by rw [IntKind.wrap_i64]; omega
  have g6 : IntKind.i64.wrap (y - v + 1) = y - v + 1 := by rw [IntKind.wrap_i64]; omega
  clear hx hy hu hv hp hq x0 x1 y0 y1 u0 u1 v0 v1 hm hm2
  go_enter Tryd.func7, Tryd.ntmps7
  go_wp2_with (first
    | (go_at_call_of 8 (Value.int .i64 a); refine (k1 _).mono ?_; rintro e w2 ⟨rfl, rfl⟩)
    | (go_at_call_of 8 (Value.int .i64 b); refine (k2 _).mono ?_; rintro e w2 ⟨rfl, rfl⟩))
  have b0 : Below w.heap.size w ((((w.alloc (V 0 0)).alloc (V 0 0)).alloc (V 0 0)).alloc (V x y)) := up (up (up (up (Below.refl _ _) _) _) _) _
  have q0 : Box ((((w.alloc (V 0 0)).alloc (V 0 0)).alloc (V 0 0)).alloc (V x y)) w.heap.size #[.int .i64 0, .int .i64 0] 25 := (((Box.new w _ _ rfl).up _).up _).up _
  have q1 : Box ((((w.alloc (V 0 0)).alloc (V 0 0)).alloc (V 0 0)).alloc (V x y)) (w.heap.size + 1) #[.int .i64 0, .int .i64 0] 25 := ((Box.new _ _ _ (by simp)).up _).up _
  have q2 : Box ((((w.alloc (V 0 0)).alloc (V 0 0)).alloc (V 0 0)).alloc (V x y)) (w.heap.size + 1 + 1) #[.int .i64 0, .int .i64 0] 25 := (Box.new _ _ _ (by simp)).up _
  have q3 : Box ((((w.alloc (V 0 0)).alloc (V 0 0)).alloc (V 0 0)).alloc (V x y)) (w.heap.size + 1 + 1 + 1) #[.int .i64 x, .int .i64 y] 25 := Box.new _ _ _ (by simp)
  generalize (((w.alloc (V 0 0)).alloc (V 0 0)).alloc (V 0 0)).alloc (V x y) = W at *
  have d0 : W.drew.cell? ⟨w.heap.size + 1 + 1 + 1, 0, none⟩ = some (.int .i64 x) := q3.cells2.1
  have d1 : W.drew.cell? ⟨w.heap.size + 1 + 1 + 1, 1, none⟩ = some (.int .i64 y) := q3.cells2.2
  have hlt := q3.lt
  have a0 : ∀ o, (W.alloc o).drew.cell? ⟨w.heap.size + 1 + 1 + 1, 0, none⟩ = some (.int .i64 x) := fun o => (q3.up o).cells2.1
  have a1 : ∀ o, (W.alloc o).drew.cell? ⟨w.heap.size + 1 + 1 + 1, 1, none⟩ = some (.int .i64 y) := fun o => (q3.up o).cells2.2
  have s0 : ∀ o i v j v', (((W.alloc o).setCell ⟨W.heap.size, i, none⟩ v).setCell ⟨W.heap.size, j, none⟩ v').drew.cell? ⟨w.heap.size + 1 + 1 + 1, 0, none⟩ = some (.int .i64 x) := fun o i v j v' => (((q3.up o).other (by omega) i v).other (by omega) j v').cells2.1
  have s1 : ∀ o i v j v', (((W.alloc o).setCell ⟨W.heap.size, i, none⟩ v).setCell ⟨W.heap.size, j, none⟩ v').drew.cell? ⟨w.heap.size + 1 + 1 + 1, 1, none⟩ = some (.int .i64 y) := fun o i v j v' => (((q3.up o).other (by omega) i v).other (by omega) j v').cells2.2
  go_cut [18] (fun s18 wx => s18 = .pointer (some ⟨W.heap.size, 0, none⟩) ∧ Box wx W.heap.size #[.int .i64 u, .int .i64 v] 25 ∧ Below W.heap.size W wx)
  case first =>
    go_region_held3 (fun w' => w'.cell? ⟨w.heap.size + 1 + 1 + 1, 0, none⟩ = some (.int .i64 x) ∧ w'.cell? ⟨w.heap.size + 1 + 1 + 1, 1, none⟩ = some (.int .i64 y))
      (first | exact ⟨by assumption, by assumption⟩ | exact ⟨a0 _, a1 _⟩ | exact ⟨s0 _ _ _ _ _, s1 _ _ _ _ _⟩)
      (first
        | (go_at_call_of 8 (Value.int .i64 c); refine (k3 _).mono ?_; rintro e w8 ⟨rfl, rfl⟩)
        | (go_at_call_of 8 (Value.int .i64 d); refine (k4 _).mono ?_; rintro e w8 ⟨rfl, rfl⟩)
        | fail)
    all_goals
      go_wp2
      go_meet
      case rel => exact ⟨rfl, (Box.new W #[.int .i64 u, .int .i64 v] 25 rfl).drew, (up (Below.refl _ _) _).drew⟩
  case rest =>
    obtain ⟨rfl, qU, hbx⟩ := hcut
    have p0 := q0.later hbx
    have p1 := q1.later hbx
    have p2 := q2.later hbx
    have p3 := q3.later hbx
    have hW := fin hbx b0
    generalize W.heap.size = U at *
    have hR0 : ThreeR w.heap.size U x y u v w wc.drew := ⟨p3, qU, ⟨_, _, p0⟩, ⟨_, _, p1⟩, ⟨_, _, p2⟩, hW.drew⟩
    clear q0 q1 q2 q3 a0 a1 s0 s1 d0 d1 k1 k2 k3 k4 g1 g2 hbx b0 p0 p1 p2 p3 qU hW
    generalize hBB : w.heap.size = B at *
    go_upto_region 3 with fail
    refine wp_region_relyZ (fun w1 => ThreeR B U x y u v w w1) (fun w1 w2 => ThreeS B x y u v p q w1 w2) (threeF B U x y u v p q e f) (by kernel_rfl) (by kernel_rfl) hR0 ?keep ?step ?rest
    case keep =>
      intro i z w1 w2 hS hF
      unfold threeF at *
      split at hF <;> first | exact hF | exact hS.s0 hF | exact hS.s1 hF | exact hS.s2 hF
    case step =>
      intro i o ho b w1 hR hold hdep
      have o4 : sl b 4 = .int .i64 e := hold 4 (by kernel_rfl)
      have o5 : sl b 5 = .int .i64 f := hold 5 (by kernel_rfl)
      have o14 : sl b 14 = .pointer (some ⟨B, 0, none⟩) := hold 14 (by kernel_rfl)
      have o15 : sl b 15 = .pointer (some ⟨(B + 1), 0, none⟩) := hold 15 (by kernel_rfl)
      have o16 : sl b 16 = .pointer (some ⟨(B + 1 + 1), 0, none⟩) := hold 16 (by kernel_rfl)
      have o17 : sl b 17 = .pointer (some ⟨(B + 1 + 1 + 1), 0, none⟩) := hold 17 (by kernel_rfl)
      have o18 : sl b 18 = .pointer (some ⟨U, 0, none⟩) := hold 18 (by kernel_rfl)
      have hS := ThreeS.refl B x y u v p q w1
      obtain ⟨x0, x1⟩ := hR.bx.cells2
      obtain ⟨u0, u1⟩ := hR.bu.cells2
      rcases i with _ | _ | _ | _ | _ | _ | _ | _ | _ | _ | _ | _ | _ | _ | _ | _ | _ | _ | _ | _ | _ | _ | i
      all_goals try cases ho
      · exact okZ_val rfl rfl (want_none rfl b) (by simp [go_sem, o17, x0, x1]) hR hS rfl
      · exact okZ_val rfl rfl (want_none rfl b) (by simp [go_sem, o18, u0, u1]) hR hS rfl
      · exact okZ_val rfl rfl (want_none rfl b) (by simp [go_sem, o4]) hR hS rfl
      · exact okZ_val rfl rfl (want_none rfl b) (by simp [go_sem, o17]) hR hS rfl
      · have f40 : sl b 40 = .pointer (some ⟨(B + 1 + 1 + 1), 0, none⟩) := hdep 3 _ rfl (by kernel_rfl)
        exact okZ_val rfl rfl (want_none rfl b) (by simp [go_sem, f40, x0]) hR hS rfl
      · exact okZ_val rfl rfl (want_none rfl b) (by simp [go_sem, o18]) hR hS rfl
      · have f42 : sl b 42 = .pointer (some ⟨U, 0, none⟩) := hdep 5 _ rfl (by kernel_rfl)
        exact okZ_val rfl rfl (want_none rfl b) (by simp [go_sem, f42, u0]) hR hS rfl
      · have f41 : sl b 41 = .int .i64 x := hdep 4 _ rfl (by kernel_rfl)
        have f43 : sl b 43 = .int .i64 u := hdep 6 _ rfl (by kernel_rfl)
        exact okZ_val rfl rfl (want_none rfl b) (by simp [go_sem, f41, f43, g3]) hR hS rfl
      · have f44 : sl b 44 = .int .i64 (x - u) := hdep 7 _ rfl (by kernel_rfl)
        exact okZ_val rfl rfl (want_none rfl b) (by simp [go_sem, f44, g5]) hR hS rfl
      · have f39 : sl b 39 = .int .i64 e := hdep 2 _ rfl (by kernel_rfl)
        have f45 : sl b 45 = .int .i64 (x - u + 1) := hdep 8 _ rfl (by kernel_rfl)
        refine okZ_enter rfl rfl (want_none rfl b) ?_ ((k5 w1).mono ?_)
        · simp [go_sem, f39, f45]
        rintro e w2 ⟨rfl, rfl⟩
        exact ⟨_, rfl, hR, hS, rfl⟩
      · exact okZ_val rfl rfl (want_none rfl b) (by simp [go_sem, o5]) hR hS rfl
      · exact okZ_val rfl rfl (want_none rfl b) (by simp [go_sem, o17]) hR hS rfl
      · have f48 : sl b 48 = .pointer (some ⟨(B + 1 + 1 + 1), 1, none⟩) := hdep 11 _ rfl (by kernel_rfl)
        exact okZ_val rfl rfl (want_none rfl b) (by simp [go_sem, f48, x1]) hR hS rfl
      · exact okZ_val rfl rfl (want_none rfl b) (by simp [go_sem, o18]) hR hS rfl
      · have f50 : sl b 50 = .pointer (some ⟨U, 1, none⟩) := hdep 13 _ rfl (by kernel_rfl)
        exact okZ_val rfl rfl (want_none rfl b) (by simp [go_sem, f50, u1]) hR hS rfl
      · have f49 : sl b 49 = .int .i64 y := hdep 12 _ rfl (by kernel_rfl)
        have f51 : sl b 51 = .int .i64 v := hdep 14 _ rfl (by kernel_rfl)
        exact okZ_val rfl rfl (want_none rfl b) (by simp [go_sem, f49, f51, g4]) hR hS rfl
      · have f52 : sl b 52 = .int .i64 (y - v) := hdep 15 _ rfl (by kernel_rfl)
        exact okZ_val rfl rfl (want_none rfl b) (by simp [go_sem, f52, g6]) hR hS rfl
      · have f47 : sl b 47 = .int .i64 f := hdep 10 _ rfl (by kernel_rfl)
        have f53 : sl b 53 = .int .i64 (y - v + 1) := hdep 16 _ rfl (by kernel_rfl)
        refine okZ_enter rfl rfl (want_none rfl b) ?_ ((k6 w1).mono ?_)
        · simp [go_sem, f47, f53]
        rintro e w2 ⟨rfl, rfl⟩
        exact ⟨_, rfl, hR, hS, rfl⟩
      · have f46 : sl b 46 = .int .i64 p := hdep 9 _ rfl (by kernel_rfl)
        have f54 : sl b 54 = .int .i64 q := hdep 17 _ rfl (by kernel_rfl)
        exact okZ_val rfl rfl (want_none rfl b) (by simp [go_sem, f46, f54]) hR hS rfl
      · have f37 : sl b 37 = .agg #[.int .i64 x, .int .i64 y] := hdep 0 _ rfl (by kernel_rfl)
        obtain ⟨s, t, hr⟩ := hR.r0
        have z0 := hr.frozen 0
        have z1 := hr.frozen 1
        obtain ⟨c0, c1⟩ := hr.cells2
        have hu : B ≠ U := by omega
        refine okZ_store rfl rfl (want_none rfl b) (by simp [go_sem, o14, f37, z0, z1, c0, c1]; rfl) ?_ ?_ ?_
        · exact ⟨((hR.bx.other (by omega) 0 _).other (by omega) 1 _), ((hR.bu.other (by omega) 0 _).other (by omega) 1 _), ⟨_, _, (hr.set 0 _).set 1 _⟩, (by obtain ⟨s, t, hr⟩ := hR.r1; exact ⟨s, t, ((hr.other (by omega) 0 _).other (by omega) 1 _)⟩), (by obtain ⟨s, t, hr⟩ := hR.r2; exact ⟨s, t, ((hr.other (by omega) 0 _).other (by omega) 1 _)⟩), (hR.bel.setCell (p := ⟨B, 0, none⟩) (by simp <;> omega) _).setCell (p := ⟨B, 1, none⟩) (by simp <;> omega) _⟩
        · exact ⟨fun h => (h.set 0 _).set 1 _, fun h => ((h.other (by omega) 0 _).other (by omega) 1 _), fun h => ((h.other (by omega) 0 _).other (by omega) 1 _)⟩
        · exact (hr.set 0 _).set 1 _
      · have f38 : sl b 38 = .agg #[.int .i64 u, .int .i64 v] := hdep 1 _ rfl (by kernel_rfl)
        obtain ⟨s, t, hr⟩ := hR.r1
        have z0 := hr.frozen 0
        have z1 := hr.frozen 1
        obtain ⟨c0, c1⟩ := hr.cells2
        have hu : (B + 1) ≠ U := by omega
        refine okZ_store rfl rfl (want_none rfl b) (by simp [go_sem, o15, f38, z0, z1, c0, c1]; rfl) ?_ ?_ ?_
        · exact ⟨((hR.bx.other (by omega) 0 _).other (by omega) 1 _), ((hR.bu.other (by omega) 0 _).other (by omega) 1 _), (by obtain ⟨s, t, hr⟩ := hR.r0; exact ⟨s, t, ((hr.other (by omega) 0 _).other (by omega) 1 _)⟩), ⟨_, _, (hr.set 0 _).set 1 _⟩, (by obtain ⟨s, t, hr⟩ := hR.r2; exact ⟨s, t, ((hr.other (by omega) 0 _).other (by omega) 1 _)⟩), (hR.bel.setCell (p := ⟨(B + 1), 0, none⟩) (by simp <;> omega) _).setCell (p := ⟨(B + 1), 1, none⟩) (by simp <;> omega) _⟩
        · exact ⟨fun h => ((h.other (by omega) 0 _).other (by omega) 1 _), fun h => (h.set 0 _).set 1 _, fun h => ((h.other (by omega) 0 _).other (by omega) 1 _)⟩
        · exact (hr.set 0 _).set 1 _
      · have f55 : sl b 55 = .agg #[.int .i64 p, .int .i64 q] := hdep 18 _ rfl (by kernel_rfl)
        obtain ⟨s, t, hr⟩ := hR.r2
        have z0 := hr.frozen 0
        have z1 := hr.frozen 1
        obtain ⟨c0, c1⟩ := hr.cells2
        have hu : (B + 1 + 1) ≠ U := by omega
        refine okZ_store rfl rfl (want_none rfl b) (by simp [go_sem, o16, f55, z0, z1, c0, c1]; rfl) ?_ ?_ ?_
        · exact ⟨((hR.bx.other (by omega) 0 _).other (by omega) 1 _), ((hR.bu.other (by omega) 0 _).other (by omega) 1 _), (by obtain ⟨s, t, hr⟩ := hR.r0; exact ⟨s, t, ((hr.other (by omega) 0 _).other (by omega) 1 _)⟩), (by obtain ⟨s, t, hr⟩ := hR.r1; exact ⟨s, t, ((hr.other (by omega) 0 _).other (by omega) 1 _)⟩), ⟨_, _, (hr.set 0 _).set 1 _⟩, (hR.bel.setCell (p := ⟨(B + 1 + 1), 0, none⟩) (by simp <;> omega) _).setCell (p := ⟨(B + 1 + 1), 1, none⟩) (by simp <;> omega) _⟩
        · exact ⟨fun h => ((h.other (by omega) 0 _).other (by omega) 1 _), fun h => ((h.other (by omega) 0 _).other (by omega) 1 _), fun h => (h.set 0 _).set 1 _⟩
        · exact (hr.set 0 _).set 1 _
    case rest =>
      intro b w1 hR hsz hdf hold hF
      have f14 : sl b 14 = .pointer (some ⟨B, 0, none⟩) := hold 14 (by kernel_rfl)
      have f15 : sl b 15 = .pointer (some ⟨(B + 1), 0, none⟩) := hold 15 (by kernel_rfl)
      have f16 : sl b 16 = .pointer (some ⟨(B + 1 + 1), 0, none⟩) := hold 16 (by kernel_rfl)
      have t0 : Box w1 B #[.int .i64 x, .int .i64 y] 25 := hF 19 _ rfl
      have t1 : Box w1 (B + 1) #[.int .i64 u, .int .i64 v] 25 := hF 20 _ rfl
      have t2 : Box w1 (B + 1 + 1) #[.int .i64 p, .int .i64 q] 25 := hF 21 _ rfl
      have hB : b = _ := act_list b (show b.tmps.size = 56 from hsz) hdf
      rw [hB]
      simp only [List.range, List.range.loop, List.map_cons, List.map_nil, f14, f15, f16]
      generalize sl b 0 = v0, sl b 1 = v1, sl b 2 = v2, sl b 3 = v3, sl b 4 = v4, sl b 5 = v5, sl b 6 = v6, sl b 7 = v7, sl b 8 = v8, sl b 9 = v9, sl b 10 = v10, sl b 11 = v11, sl b 12 = v12, sl b 13 = v13, sl b 17 = v17, sl b 18 = v18, sl b 19 = v19, sl b 20 = v20, sl b 21 = v21, sl b 22 = v22, sl b 23 = v23, sl b 24 = v24, sl b 25 = v25, sl b 26 = v26, sl b 27 = v27, sl b 28 = v28, sl b 29 = v29, sl b 30 = v30, sl b 31 = v31, sl b 32 = v32, sl b 33 = v33, sl b 34 = v34, sl b 35 = v35, sl b 36 = v36, sl b 37 = v37, sl b 38 = v38, sl b 39 = v39, sl b 40 = v40, sl b 41 = v41, sl b 42 = v42, sl b 43 = v43, sl b 44 = v44, sl b 45 = v45, sl b 46 = v46, sl b 47 = v47, sl b 48 = v48, sl b 49 = v49, sl b 50 = v50, sl b 51 = v51, sl b 52 = v52, sl b 53 = v53, sl b 54 = v54, sl b 55 = v55
      obtain ⟨c0, c1⟩ := t0.cells2
      obtain ⟨c2, c3⟩ := t1.cells2
      obtain ⟨c4, c5⟩ := t2.cells2
      have hbel := hR.bel
      clear hB hold hsz hdf hF f14 f15 f16 hR
      go_wp2
      exact bodyPost_ret (by simp [results, Tryd.results7, go_sem, c0, c1, c2, c3, c4, c5]) rfl ⟨rfl, by rw [hBB]; exact hbel⟩

end Go.Proofs.YtmkbllkfipcghaaDoor
