/- The walk of FitNames. -/
import Derived.Test.YtdgeigkdplbdbabK
import Derived.Test.YtdgeigkdplbdbabBX
import Derived.Test.YtdgeigkdplbdbabLP
import Derived.Test.YtdgeigkdplbdbabFR
import Derived.Deep.DeepCutAuto
namespace Go.Proofs.Ytdgeigkdplbdbab
open Go.RowKit Go.Maps
set_option linter.unusedSimpArgs false
set_option linter.unusedVariables false

def namesF (s0 t0 s2 t2 : ByteArray) (sh c1 m1 cc cm u R1 R0 : Int) (a1 a2 a3 a4 : Option Addr) (pn q1 bn q2 xn q3 yn q4 A B : Nat) (al cl : Bool) : Nat → Value → World → Prop
  | 0, v, _ => v = .agg #[.string s0, .int .i64 sh, .int .i64 c1, .int .i64 m1, .slice a1 pn q1, .slice a2 bn q2, .bool al]
  | 1, v, _ => v = .agg #[.string t0, .int .i64 cc, .int .i64 cm, .slice a3 xn q3, .slice a4 yn q4, .bool cl]
  | 2, v, _ => v = .agg #[.int .i64 u, .int .i64 0]
  | 3, v, _ => v = .slice (some ⟨A, 0, none⟩) 1 1
  | 4, v, _ => v = .int .i64 R1
  | 5, v, _ => v = .agg #[.string s2, .int .i64 4, .int .i64 c1, .int .i64 m1, .slice a1 pn q1, .slice a2 bn q2, .bool al]
  | 6, v, _ => v = .agg #[.string t2, .int .i64 cc, .int .i64 cm, .slice a3 xn q3, .slice a4 yn q4, .bool cl]
  | 7, v, _ => v = .agg #[.int .i64 u, .int .i64 0]
  | 8, v, _ => v = .slice (some ⟨B, 0, none⟩) 1 1
  | 9, v, _ => v = .int .i64 R1
  | 10, v, _ => v = .bool true
  | 11, v, _ => v = .bool true
  | 12, v, _ => v = .agg #[.string s0, .int .i64 sh, .int .i64 c1, .int .i64 m1, .slice a1 pn q1, .slice a2 bn q2, .bool al]
  | 13, v, _ => v = .agg #[.string t0, .int .i64 cc, .int .i64 cm, .slice a3 xn q3, .slice a4 yn q4, .bool cl]
  | 14, v, _ => v = .agg #[.int .i64 u, .int .i64 0]
  | 15, v, _ => v = .int .i64 R0
  | 16, v, _ => v = .agg #[.string s2, .int .i64 4, .int .i64 c1, .int .i64 m1, .slice a1 pn q1, .slice a2 bn q2, .bool al]
  | 17, v, _ => v = .agg #[.string t2, .int .i64 cc, .int .i64 cm, .slice a3 xn q3, .slice a4 yn q4, .bool cl]
  | 18, v, _ => v = .agg #[.int .i64 u, .int .i64 0]
  | 19, v, _ => v = .int .i64 R0
  | 20, v, _ => v = .bool true
  | 21, v, _ => v = .bool true
  | 22, v, _ => v = .bool true
  | 23, v, _ => v = .agg #[.string s0, .int .i64 sh, .int .i64 c1, .int .i64 m1, .slice a1 pn q1, .slice a2 bn q2, .bool al]
  | 24, v, _ => v = .agg #[.string t0, .int .i64 cc, .int .i64 cm, .slice a3 xn q3, .slice a4 yn q4, .bool cl]
  | 25, v, _ => v = .agg #[.int .i64 u, .int .i64 0]
  | 26, v, _ => v = .slice (some ⟨A, 0, none⟩) 1 1
  | 27, v, _ => v = .int .i64 R1
  | 28, v, _ => v = .agg #[.string s0, .int .i64 sh, .int .i64 c1, .int .i64 m1, .slice a1 pn q1, .slice a2 bn q2, .bool al]
  | 29, v, _ => v = .agg #[.string t0, .int .i64 cc, .int .i64 cm, .slice a3 xn q3, .slice a4 yn q4, .bool cl]
  | 30, v, _ => v = .agg #[.int .i64 u, .int .i64 0]
  | 31, v, _ => v = .slice (some ⟨A, 0, none⟩) 1 1
  | 32, v, _ => v = .int .i64 R1
  | 33, v, _ => v = .bool true
  | 34, v, _ => v = .bool true
  | 35, v, _ => v = .bool true
  | _, _, _ => True

set_option maxRecDepth 100000 in
set_option maxHeartbeats 8000000 in
theorem fitNames_walk (n name m other cpu : Int) (w : World) :
    Calls Try.prog 4 #[.int .i64 n, .int .i64 name, .int .i64 m, .int .i64 other, .int .i64 cpu] w fun e w' => e = .returned (.bool true) ∧ Below w.heap.size w w' := by
  obtain ⟨ps, hps⟩ : ∃ ps, podPicks n = ps := ⟨_, rfl⟩
  obtain ⟨bs, hbs⟩ : ∃ ps, podBears n = ps := ⟨_, rfl⟩
  obtain ⟨pn, hpn⟩ : ∃ k, ps.length = k := ⟨_, rfl⟩
  obtain ⟨bn, hbn⟩ : ∃ k, bs.length = k := ⟨_, rfl⟩
  obtain ⟨sh, hsh⟩ : ∃ k, 1 + n % 4 = k := ⟨_, rfl⟩
  obtain ⟨c1, hc1⟩ : ∃ k, wrap64 (n.tdiv 4) % 5 = k := ⟨_, rfl⟩
  obtain ⟨m1, hm1⟩ : ∃ k, wrap64 (n.tdiv 20) % 5 = k := ⟨_, rfl⟩
  obtain ⟨al, hal⟩ : ∃ k, (wrap64 (n.tdiv 13) % 6 == 0) = k := ⟨_, rfl⟩
  obtain ⟨u, hu⟩ : ∃ k, cpu % 12 = k := ⟨_, rfl⟩
  obtain ⟨s0, hs0⟩ : ∃ s, podName 0 = s := ⟨_, rfl⟩
  obtain ⟨t0, ht0⟩ : ∃ s, nameAt name = s := ⟨_, rfl⟩
  obtain ⟨s2, hs2⟩ : ∃ s, nameAt other = s := ⟨_, rfl⟩
  obtain ⟨o8, ho8⟩ : ∃ k, wrap64 (other.tdiv 8) = k := ⟨_, rfl⟩
  obtain ⟨t2, ht2⟩ : ∃ s, nameAt o8 = s := ⟨_, rfl⟩
  have hb1 : 0 ≤ c1 ∧ c1 < 5 ∧ 0 ≤ m1 ∧ m1 < 5 ∧ 0 ≤ u ∧ u < 12 := by omega
  have kp := fun W => lPod_is 0 n 4 W (by decide) (by decide) (by decide)
  simp only [hps, hbs, hpn, hbn, hsh, hc1, hm1, hal, hs0] at kp
  have kn := fun W => lNode_any name m W
  simp only [ht0] at kn
  have ks := fun W0 W hb => lName_is other s2 W0 W hb hs2
  have kt := fun W0 W hb => lName_is o8 t2 W0 W hb ht2
  clear hps hbs hsh hc1 hm1 hal hs0 ht0 hs2 ht2
  go_enter Try.func4, Try.ntmps4
  go_upto_region 4 with (first
    | (go_at_call 5; refine (known_on _ _ (Below.refl _ _)).mono ?_; rintro e w1 ⟨rfl, hW1⟩)
    | (go_at_call 8; refine (kp _).mono ?_; rintro e w2 ⟨a1, q1, a2, q2, rfl, g1, g2, hb2⟩
       have hW2 := fin hb2 hW1)
    | (go_at_call 9; refine (kn _).mono ?_; rintro e w3 ⟨cc, cm, a3, q3, xs, a4, q4, ys, cl, rfl, hc, g3, g4, hb3⟩
       have hW3 := fin hb3 hW2
       have g1 := (g1.later hb3)
       have g2 := (g2.later hb3)))
  obtain ⟨xn, hxn⟩ : ∃ k, xs.length = k := ⟨_, rfl⟩
  obtain ⟨yn, hyn⟩ : ∃ k, ys.length = k := ⟨_, rfl⟩
  simp only [hxn, hyn]
  have p4 := (Box.new w3 #[.string s0, .int .i64 sh, .int .i64 c1, .int .i64 m1, .slice a1 pn q1, .slice a2 bn q2, .bool al] 27 rfl).up (.cells #[.string t0, .int .i64 cc, .int .i64 cm, .slice a3 xn q3, .slice a4 yn q4, .bool cl] 29)
  have n4 : Box _ (w3.heap.size + 1) _ _ := Box.new (w3.alloc (.cells #[.string s0, .int .i64 sh, .int .i64 c1, .int .i64 m1, .slice a1 pn q1, .slice a2 bn q2, .bool al] 27)) #[.string t0, .int .i64 cc, .int .i64 cm, .slice a3 xn q3, .slice a4 yn q4, .bool cl] 29 (by simp)
  have hW4 := up (up hW3 (.cells #[.string s0, .int .i64 sh, .int .i64 c1, .int .i64 m1, .slice a1 pn q1, .slice a2 bn q2, .bool al] 27)) (.cells #[.string t0, .int .i64 cc, .int .i64 cm, .slice a3 xn q3, .slice a4 yn q4, .bool cl] 29)
  have h34 : Below w3.heap.size w3 ((w3.alloc (.cells #[.string s0, .int .i64 sh, .int .i64 c1, .int .i64 m1, .slice a1 pn q1, .slice a2 bn q2, .bool al] 27)).alloc (.cells #[.string t0, .int .i64 cc, .int .i64 cm, .slice a3 xn q3, .slice a4 yn q4, .bool cl] 29)) := up (up (Below.refl _ _) _) _
  have s1 := g1.new.1.later h34
  have s2' := g2.new.1.later h34
  have s3 := g3.new.1.later h34
  have s4 := g4.new.1.later h34
  have z1 := fun i => g1.short i
  have z2 := fun i => g2.short i
  have z3 := fun i => g3.short i
  have z4 := fun i => g4.short i
  have e1 : ∀ x, a1 = some x → x.block < w3.heap.size := fun x hx => (g1.new.2.1 x hx).2
  have e2 : ∀ x, a2 = some x → x.block < w3.heap.size := fun x hx => (g2.new.2.1 x hx).2
  have e3 : ∀ x, a3 = some x → x.block < w3.heap.size := fun x hx => (g3.new.2.1 x hx).2
  have e4 : ∀ x, a4 = some x → x.block < w3.heap.size := fun x hx => (g4.new.2.1 x hx).2
  obtain ⟨P, hP⟩ : ∃ P, w3.heap.size = P := ⟨_, rfl⟩
  have hW3' : w.heap.size ≤ P := by rw [← hP]; exact hW3.size
  have hsz4 : P + 2 = ((w3.alloc (.cells #[.string s0, .int .i64 sh, .int .i64 c1, .int .i64 m1, .slice a1 pn q1, .slice a2 bn q2, .bool al] 27)).alloc (.cells #[.string t0, .int .i64 cc, .int .i64 cm, .slice a3 xn q3, .slice a4 yn q4, .bool cl] 29)).heap.size := by simp [hP]
  rw [hP] at p4 n4 e1 e2 e3 e4 ⊢
  clear kp kn g1 g2 g3 g4 hb2 hb3 h34 hW3 hW2 hW1 hP
  generalize (w3.alloc (.cells #[.string s0, .int .i64 sh, .int .i64 c1, .int .i64 m1, .slice a1 pn q1, .slice a2 bn q2, .bool al] 27)).alloc (.cells #[.string t0, .int .i64 cc, .int .i64 cm, .slice a3 xn q3, .slice a4 yn q4, .bool cl] 29) = W4 at *
  have hz0 : P < W4.heap.size := by omega
  have hz1 : P + 1 < W4.heap.size := by omega
  have hz2 : P + 2 ≤ W4.heap.size := by omega
  have hy0 : ∀ k, P < W4.heap.size + k := fun k => by omega
  have hy1 : ∀ k, P + 1 < W4.heap.size + k := fun k => by omega
  clear hsz4
  obtain ⟨pc0, pc1, pc2, pc3, pc4, pc5, pc6⟩ := p4.cells7
  obtain ⟨nc0, nc1, nc2, nc3, nc4, nc5⟩ := n4.cells6
  go_cut [13, 14] (fun s13 s14 wx => ∃ Q Y, s13 = .pointer (some ⟨Q, 0, none⟩) ∧ s14 = .pointer (some ⟨Y, 0, none⟩) ∧ Box wx Q #[.string s0, .int .i64 sh, .int .i64 c1, .int .i64 m1, .slice a1 pn q1, .slice a2 bn q2, .bool al] 27 ∧ Box wx Y #[.string t0, .int .i64 cc, .int .i64 cm, .slice a3 xn q3, .slice a4 yn q4, .bool cl] 29 ∧ Q ≠ Y ∧ P + 2 ≤ Q ∧ P + 2 ≤ Y ∧ Below W4.heap.size W4 wx)
  case first =>
    go_region
    all_goals
      go_wp2
      go_meet
      case rel =>
        refine ⟨_, _, rfl, rfl, Box.drew ?_, Box.drew ?_, by omega, by omega, by omega, Below.drew (up (up (Below.refl _ _) _) _)⟩
        all_goals first | exact (Box.new W4 _ _ rfl).up _ | exact Box.new _ _ _ (by simp)
  case rest =>
    obtain ⟨Q, Y, rfl, rfl, hQ, hY, hne, hQ2, hY2, hwc⟩ := hcut
    have p5 := p4.later hwc
    have n5 := n4.later hwc
    have hW5 := fin hwc hW4
    have s1 := s1.later hwc
    have s2' := s2'.later hwc
    have s3 := s3.later hwc
    have s4 := s4.later hwc
    clear p4 n4 hW4 pc0 pc1 pc2 pc3 pc4 pc5 pc6 nc0 nc1 nc2 nc3 nc4 nc5 hz0 hz1 hz2 hy0 hy1 hwc
    go_upto_region 8 with (first
      | (go_at_call_of 10 (Value.int .i64 other); refine (ks _ _ (Below.refl _ _)).mono ?_; rintro e w5 ⟨rfl, hb5⟩)
      | (go_at_call_of 10 (Value.int .i64 o8); refine (kt _ _ hb5).mono ?_; rintro e w6 ⟨rfl, hb6⟩
         have hQ6 := hQ.later hb6
         have hY6 := hY.later hb6
         obtain ⟨qc0, qc1, qc2, qc3, qc4, qc5, qc6⟩ := hQ6.cells7
         obtain ⟨yc0, yc1, yc2, yc3, yc4, yc5⟩ := hY6.cells6
         have fq0 := hQ6.frozen 0
         have fq1 := hQ6.frozen 1
         have fy0 := hY6.frozen 0
         have hne' : Y ≠ Q := Ne.symm hne)
      | (go_at_call 6; refine (within5_any _ _ _ (by decide) (by decide) hu _).mono ?_; rintro e w9 ⟨rfl, rfl⟩))
    have b6 := fin hb6 hW5
    have lQ : w.heap.size ≤ Q := by have := hW3'; omega
    have lY : w.heap.size ≤ Y := by have := hW3'; omega
    have hne' : Y ≠ Q := Ne.symm hne
    have nPQ : P ≠ Q := by omega
    have nPY : P ≠ Y := by omega
    have nNQ : P + 1 ≠ Q := by omega
    have nNY : P + 1 ≠ Y := by omega
    have p7 := (((p5.later hb6).other nPQ 0 (.string s2)).other nPQ 1 (.int .i64 4)).other nPY 0 (.string t2)
    have n7 := (((n5.later hb6).other nNQ 0 (.string s2)).other nNQ 1 (.int .i64 4)).other nNY 0 (.string t2)
    have Q7 : Box _ Q #[.string s2, .int .i64 4, .int .i64 c1, .int .i64 m1, .slice a1 pn q1, .slice a2 bn q2, .bool al] 27 := ((hQ6.set 0 (.string s2)).set 1 (.int .i64 4)).other hne 0 (.string t2)
    have Y7 : Box _ Y #[.string t2, .int .i64 cc, .int .i64 cm, .slice a3 xn q3, .slice a4 yn q4, .bool cl] 29 := ((hY6.other hne' 0 (.string s2)).other hne' 1 (.int .i64 4)).set 0 (.string t2)
    have b7 := ((b6.setCell (p := ⟨Q, 0, none⟩) lQ (.string s2)).setCell (p := ⟨Q, 1, none⟩) lQ (.int .i64 4)).setCell (p := ⟨Y, 0, none⟩) lY (.string t2)
    have fQ1 : ∀ x, a1 = some x → x.block ≠ Q := fun x hx e => by have := e1 x hx; omega
    have fQ2 : ∀ x, a2 = some x → x.block ≠ Q := fun x hx e => by have := e2 x hx; omega
    have fQ3 : ∀ x, a3 = some x → x.block ≠ Q := fun x hx e => by have := e3 x hx; omega
    have fQ4 : ∀ x, a4 = some x → x.block ≠ Q := fun x hx e => by have := e4 x hx; omega
    have fY1 : ∀ x, a1 = some x → x.block ≠ Y := fun x hx e => by have := e1 x hx; omega
    have fY2 : ∀ x, a2 = some x → x.block ≠ Y := fun x hx e => by have := e2 x hx; omega
    have fY3 : ∀ x, a3 = some x → x.block ≠ Y := fun x hx e => by have := e3 x hx; omega
    have fY4 : ∀ x, a4 = some x → x.block ≠ Y := fun x hx e => by have := e4 x hx; omega
    have s1 := (((s1.later hb6).put fQ1 0 (.string s2)).put fQ1 1 (.int .i64 4)).put fY1 0 (.string t2)
    have s2' := (((s2'.later hb6).put fQ2 0 (.string s2)).put fQ2 1 (.int .i64 4)).put fY2 0 (.string t2)
    have s3 := (((s3.later hb6).put fQ3 0 (.string s2)).put fQ3 1 (.int .i64 4)).put fY3 0 (.string t2)
    have s4 := (((s4.later hb6).put fQ4 0 (.string s2)).put fQ4 1 (.int .i64 4)).put fY4 0 (.string t2)
    have hsz7 : (((w6.setCell ⟨Q, 0, none⟩ (.string s2)).setCell ⟨Q, 1, none⟩ (.int .i64 4)).setCell ⟨Y, 0, none⟩ (.string t2)).heap.size = w6.heap.size := by simp
    have h78 : Below (((w6.setCell ⟨Q, 0, none⟩ (.string s2)).setCell ⟨Q, 1, none⟩ (.int .i64 4)).setCell ⟨Y, 0, none⟩ (.string t2)).heap.size (((w6.setCell ⟨Q, 0, none⟩ (.string s2)).setCell ⟨Q, 1, none⟩ (.int .i64 4)).setCell ⟨Y, 0, none⟩ (.string t2)) ((((((w6.setCell ⟨Q, 0, none⟩ (.string s2)).setCell ⟨Q, 1, none⟩ (.int .i64 4)).setCell ⟨Y, 0, none⟩ (.string t2)).alloc (.cells #[.int .i64 u, .int .i64 0] 24)).alloc (.cells #[.string ⟨#[113]⟩, .string ⟨#[110]⟩, .int .i64 0, .int .i64 0, .bool false] 31)).alloc (.cells #[.string ⟨#[114]⟩, .string ⟨#[109]⟩, .int .i64 99, .int .i64 0, .bool false] 31)) := up (up (up (Below.refl _ _) _) _) _
    have p8 := p7.later h78
    have n8 := n7.later h78
    have Q8 := Q7.later h78
    have Y8 := Y7.later h78
    have U8 : Box ((((((w6.setCell ⟨Q, 0, none⟩ (.string s2)).setCell ⟨Q, 1, none⟩ (.int .i64 4)).setCell ⟨Y, 0, none⟩ (.string t2)).alloc (.cells #[.int .i64 u, .int .i64 0] 24)).alloc (.cells #[.string ⟨#[113]⟩, .string ⟨#[110]⟩, .int .i64 0, .int .i64 0, .bool false] 31)).alloc (.cells #[.string ⟨#[114]⟩, .string ⟨#[109]⟩, .int .i64 99, .int .i64 0, .bool false] 31)) w6.heap.size #[.int .i64 u, .int .i64 0] 24 := ((Box.new _ _ _ hsz7).up _).up _
    have A8 : Box ((((((w6.setCell ⟨Q, 0, none⟩ (.string s2)).setCell ⟨Q, 1, none⟩ (.int .i64 4)).setCell ⟨Y, 0, none⟩ (.string t2)).alloc (.cells #[.int .i64 u, .int .i64 0] 24)).alloc (.cells #[.string ⟨#[113]⟩, .string ⟨#[110]⟩, .int .i64 0, .int .i64 0, .bool false] 31)).alloc (.cells #[.string ⟨#[114]⟩, .string ⟨#[109]⟩, .int .i64 99, .int .i64 0, .bool false] 31)) (w6.heap.size + 1) #[.string ⟨#[113]⟩, .string ⟨#[110]⟩, .int .i64 0, .int .i64 0, .bool false] 31 := (Box.new _ _ _ (by simp)).up _
    have B8 : Box ((((((w6.setCell ⟨Q, 0, none⟩ (.string s2)).setCell ⟨Q, 1, none⟩ (.int .i64 4)).setCell ⟨Y, 0, none⟩ (.string t2)).alloc (.cells #[.int .i64 u, .int .i64 0] 24)).alloc (.cells #[.string ⟨#[113]⟩, .string ⟨#[110]⟩, .int .i64 0, .int .i64 0, .bool false] 31)).alloc (.cells #[.string ⟨#[114]⟩, .string ⟨#[109]⟩, .int .i64 99, .int .i64 0, .bool false] 31)) (w6.heap.size + 1 + 1) #[.string ⟨#[114]⟩, .string ⟨#[109]⟩, .int .i64 99, .int .i64 0, .bool false] 31 := Box.new _ _ _ (by simp)
    have s1 := s1.later h78
    have s2' := s2'.later h78
    have s3 := s3.later h78
    have s4 := s4.later h78
    have hW8 := up (up (up b7 (.cells #[.int .i64 u, .int .i64 0] 24)) (.cells #[.string ⟨#[113]⟩, .string ⟨#[110]⟩, .int .i64 0, .int .i64 0, .bool false] 31)) (.cells #[.string ⟨#[114]⟩, .string ⟨#[109]⟩, .int .i64 99, .int .i64 0, .bool false] 31)
    have lA : Places ((((((w6.setCell ⟨Q, 0, none⟩ (.string s2)).setCell ⟨Q, 1, none⟩ (.int .i64 4)).setCell ⟨Y, 0, none⟩ (.string t2)).alloc (.cells #[.int .i64 u, .int .i64 0] 24)).alloc (.cells #[.string ⟨#[113]⟩, .string ⟨#[110]⟩, .int .i64 0, .int .i64 0, .bool false] 31)).alloc (.cells #[.string ⟨#[114]⟩, .string ⟨#[109]⟩, .int .i64 99, .int .i64 0, .bool false] 31)) (some ⟨w6.heap.size + 1, 0, none⟩) [⟨⟨#[113]⟩, ⟨#[110]⟩, 0, 0, false⟩] := place_one A8
    have lB : Places ((((((w6.setCell ⟨Q, 0, none⟩ (.string s2)).setCell ⟨Q, 1, none⟩ (.int .i64 4)).setCell ⟨Y, 0, none⟩ (.string t2)).alloc (.cells #[.int .i64 u, .int .i64 0] 24)).alloc (.cells #[.string ⟨#[113]⟩, .string ⟨#[110]⟩, .int .i64 0, .int .i64 0, .bool false] 31)).alloc (.cells #[.string ⟨#[114]⟩, .string ⟨#[109]⟩, .int .i64 99, .int .i64 0, .bool false] 31)) (some ⟨w6.heap.size + 1 + 1, 0, none⟩) [⟨⟨#[114]⟩, ⟨#[109]⟩, 99, 0, false⟩] := place_one B8
    clear p7 n7 Q7 Y7 b7 hsz7 h78 p5 n5 hQ6 hY6 hQ hY qc0 qc1 qc2 qc3 qc4 qc5 qc6 yc0 yc1 yc2 yc3 yc4 yc5 fq0 fq1 fy0 fQ1 fQ2 fQ3 fQ4 fY1 fY2 fY3 fY4 hb5 hb6 b6 hW5 A8 B8 ks kt
    generalize (((((w6.setCell ⟨Q, 0, none⟩ (.string s2)).setCell ⟨Q, 1, none⟩ (.int .i64 4)).setCell ⟨Y, 0, none⟩ (.string t2)).alloc (.cells #[.int .i64 u, .int .i64 0] 24)).alloc (.cells #[.string ⟨#[113]⟩, .string ⟨#[110]⟩, .int .i64 0, .int .i64 0, .bool false] 31)).alloc (.cells #[.string ⟨#[114]⟩, .string ⟨#[109]⟩, .int .i64 99, .int .i64 0, .bool false] 31) = W8 at *
    obtain ⟨U, hU⟩ : ∃ U, w6.heap.size = U := ⟨_, rfl⟩
    rw [hU] at U8 lA lB ⊢
    obtain ⟨A, hA⟩ : ∃ A, U + 1 = A := ⟨_, rfl⟩
    rw [hA] at lA lB ⊢
    obtain ⟨B, hB⟩ : ∃ B, A + 1 = B := ⟨_, rfl⟩
    rw [hB] at lB ⊢
    clear hU hA hB
    obtain ⟨v1, hv1⟩ : ∃ v, allB ps xs = v := ⟨_, rfl⟩
    obtain ⟨v2, hv2⟩ : ∃ v, allB ys bs = v := ⟨_, rfl⟩
    obtain ⟨v3, hv3⟩ : ∃ v, roomB u 0 c1 m1 cc cm = v := ⟨_, rfl⟩
    obtain ⟨R1, hR1⟩ : ∃ R, whyN cl v1 v2 v3 al [⟨⟨#[113]⟩, ⟨#[110]⟩, 0, 0, false⟩] = R := ⟨_, rfl⟩
    obtain ⟨R0, hR0⟩ : ∃ R, whyN cl v1 v2 v3 al [] = R := ⟨_, rfl⟩
    have hR2 : whyN cl v1 v2 v3 al [⟨⟨#[114]⟩, ⟨#[109]⟩, 99, 0, false⟩] = R1 := hR1
    have kA := fun W (hb : Below W8.heap.size W8 W) => why_any s0 sh c1 m1 a1 pn q1 a2 bn q2 al t0 cc cm a3 xn q3 a4 yn q4 cl u 0 (some ⟨A, 0, none⟩) 1 1 ps bs xs ys _ v1 v2 v3 W hpn hbn hxn hyn rfl (s1.later hb) (s2'.later hb) (s3.later hb) (s4.later hb) (lA.later hb) z1 z2 z3 z4 (by omega) (by omega) hv1 hv2 hv3
    have kB := fun W (hb : Below W8.heap.size W8 W) => why_any s2 4 c1 m1 a1 pn q1 a2 bn q2 al t2 cc cm a3 xn q3 a4 yn q4 cl u 0 (some ⟨B, 0, none⟩) 1 1 ps bs xs ys _ v1 v2 v3 W hpn hbn hxn hyn rfl (s1.later hb) (s2'.later hb) (s3.later hb) (s4.later hb) (lB.later hb) z1 z2 z3 z4 (by omega) (by omega) hv1 hv2 hv3
    have k0 := fun W (hb : Below W8.heap.size W8 W) => why_any s0 sh c1 m1 a1 pn q1 a2 bn q2 al t0 cc cm a3 xn q3 a4 yn q4 cl u 0 none 0 0 ps bs xs ys [] v1 v2 v3 W hpn hbn hxn hyn rfl (s1.later hb) (s2'.later hb) (s3.later hb) (s4.later hb) (places_nil W) z1 z2 z3 z4 (by omega) (by omega) hv1 hv2 hv3
    have k1 := fun W (hb : Below W8.heap.size W8 W) => why_any s2 4 c1 m1 a1 pn q1 a2 bn q2 al t2 cc cm a3 xn q3 a4 yn q4 cl u 0 none 0 0 ps bs xs ys [] v1 v2 v3 W hpn hbn hxn hyn rfl (s1.later hb) (s2'.later hb) (s3.later hb) (s4.later hb) (places_nil W) z1 z2 z3 z4 (by omega) (by omega) hv1 hv2 hv3
    have kr := fun W (hb : Below W8.heap.size W8 W) => rWhy_any s0 sh c1 m1 a1 pn q1 a2 bn q2 al t0 cc cm a3 xn q3 a4 yn q4 cl u 0 (some ⟨A, 0, none⟩) 1 1 ps bs xs ys _ v1 v2 v3 W hpn hbn hxn hyn rfl (s1.later hb) (s2'.later hb) (s3.later hb) (s4.later hb) (lA.later hb) (by omega) (by omega) hv1 hv2 hv3
    simp only [hR1] at kA kr
    simp only [hR2] at kB
    simp only [hR0] at k0 k1
    clear hR0 hR1 hR2 hv1 hv2 hv3 s1 s2' s3 s4 lA lB z1 z2 z3 z4
    refine wp_region_rely (fun w1 => Below W8.heap.size W8 w1) (fun w1 w2 => Below w1.heap.size w1 w2) (namesF s0 t0 s2 t2 sh c1 m1 cc cm u R1 R0 a1 a2 a3 a4 pn q1 bn q2 xn q3 yn q4 A B al cl) (by kernel_rfl) (by kernel_rfl) (Below.refl _ _).drew ?keep ?step ?rest
    case keep =>
      intro i v w1 w2 hS hF
      unfold namesF at *
      split at hF <;> try exact hF
    case step =>
      intro i o d ho hd b w1 hR hold hdep
      have o11 : sl b 11 = .pointer (some ⟨P, 0, none⟩) := hold 11 (by kernel_rfl)
      have o12 : sl b 12 = .pointer (some ⟨P + 1, 0, none⟩) := hold 12 (by kernel_rfl)
      have o13 : sl b 13 = .pointer (some ⟨Q, 0, none⟩) := hold 13 (by kernel_rfl)
      have o14 : sl b 14 = .pointer (some ⟨Y, 0, none⟩) := hold 14 (by kernel_rfl)
      have o15 : sl b 15 = .pointer (some ⟨U, 0, none⟩) := hold 15 (by kernel_rfl)
      have o16 : sl b 16 = .slice (some ⟨A, 0, none⟩) 1 1 := hold 16 (by kernel_rfl)
      have o17 : sl b 17 = .slice (some ⟨B, 0, none⟩) 1 1 := hold 17 (by kernel_rfl)
      have hb0 := Below.refl w1.heap.size w1
      obtain ⟨pc0, pc1, pc2, pc3, pc4, pc5, pc6⟩ := (p8.later hR).cells7
      obtain ⟨nc0, nc1, nc2, nc3, nc4, nc5⟩ := (n8.later hR).cells6
      obtain ⟨qc0, qc1, qc2, qc3, qc4, qc5, qc6⟩ := (Q8.later hR).cells7
      obtain ⟨yc0, yc1, yc2, yc3, yc4, yc5⟩ := (Y8.later hR).cells6
      obtain ⟨uc0, uc1⟩ := (U8.later hR).cells2
      rcases i with _ | _ | _ | _ | _ | _ | _ | _ | _ | _ | _ | _ | _ | _ | _ | _ | _ | _ | _ | _ | _ | _ | _ | _ | _ | _ | _ | _ | _ | _ | _ | _ | _ | _ | _ | _ | i
      all_goals try (cases ho; cases hd)
      · exact ok_val' rfl rfl (want_none rfl b) (by simp [go_sem, o11, pc0, pc1, pc2, pc3, pc4, pc5, pc6]) hR hb0 rfl
      · exact ok_val' rfl rfl (want_none rfl b) (by simp [go_sem, o12, nc0, nc1, nc2, nc3, nc4, nc5]) hR hb0 rfl
      · exact ok_val' rfl rfl (want_none rfl b) (by simp [go_sem, o15, uc0, uc1]) hR hb0 rfl
      · exact ok_val' rfl rfl (want_none rfl b) (by simp [go_sem, o16]) hR hb0 rfl
      · have f43 : sl b 43 = .agg #[.string s0, .int .i64 sh, .int .i64 c1, .int .i64 m1, .slice a1 pn q1, .slice a2 bn q2, .bool al] := hdep 0 _ _ rfl rfl (by kernel_rfl)
        have f44 : sl b 44 = .agg #[.string t0, .int .i64 cc, .int .i64 cm, .slice a3 xn q3, .slice a4 yn q4, .bool cl] := hdep 1 _ _ rfl rfl (by kernel_rfl)
        have f45 : sl b 45 = .agg #[.int .i64 u, .int .i64 0] := hdep 2 _ _ rfl rfl (by kernel_rfl)
        have f46 : sl b 46 = .slice (some ⟨A, 0, none⟩) 1 1 := hdep 3 _ _ rfl rfl (by kernel_rfl)
        refine ok_enter' rfl rfl (want_none rfl b) ?_ ((kA w1 hR).mono ?_)
        · simp [go_sem, f43, f44, f45, f46, cfWhy]
        rintro e w2 ⟨rfl, hb2⟩
        exact ⟨_, rfl, hR.trans (hb2.mono hR.size), hb2, rfl⟩
      · exact ok_val' rfl rfl (want_none rfl b) (by simp [go_sem, o13, qc0, qc1, qc2, qc3, qc4, qc5, qc6]) hR hb0 rfl
      · exact ok_val' rfl rfl (want_none rfl b) (by simp [go_sem, o14, yc0, yc1, yc2, yc3, yc4, yc5]) hR hb0 rfl
      · exact ok_val' rfl rfl (want_none rfl b) (by simp [go_sem, o15, uc0, uc1]) hR hb0 rfl
      · exact ok_val' rfl rfl (want_none rfl b) (by simp [go_sem, o17]) hR hb0 rfl
      · have f48 : sl b 48 = .agg #[.string s2, .int .i64 4, .int .i64 c1, .int .i64 m1, .slice a1 pn q1, .slice a2 bn q2, .bool al] := hdep 5 _ _ rfl rfl (by kernel_rfl)
        have f49 : sl b 49 = .agg #[.string t2, .int .i64 cc, .int .i64 cm, .slice a3 xn q3, .slice a4 yn q4, .bool cl] := hdep 6 _ _ rfl rfl (by kernel_rfl)
        have f50 : sl b 50 = .agg #[.int .i64 u, .int .i64 0] := hdep 7 _ _ rfl rfl (by kernel_rfl)
        have f51 : sl b 51 = .slice (some ⟨B, 0, none⟩) 1 1 := hdep 8 _ _ rfl rfl (by kernel_rfl)
        refine ok_enter' rfl rfl (want_none rfl b) ?_ ((kB w1 hR).mono ?_)
        · simp [go_sem, f48, f49, f50, f51, cfWhy]
        rintro e w2 ⟨rfl, hb2⟩
        exact ⟨_, rfl, hR.trans (hb2.mono hR.size), hb2, rfl⟩
      · have f47 : sl b 47 = .int .i64 R1 := hdep 4 _ _ rfl rfl (by kernel_rfl)
        have f52 : sl b 52 = .int .i64 R1 := hdep 9 _ _ rfl rfl (by kernel_rfl)
        exact ok_val' rfl rfl (want_none rfl b) (by simp [go_sem, f47, f52]) hR hb0 rfl
      · have f53 : sl b 53 = .bool true := hdep 10 _ _ rfl rfl (by kernel_rfl)
        exact ok_val' rfl rfl (want_none rfl b) (by simp [go_sem, f53]) hR hb0 rfl
      · have f54 : sl b 54 = .bool true := hdep 11 _ _ rfl rfl (by kernel_rfl)
        exact ok_val' rfl rfl (want 11 54 rfl rfl f54) (by simp [go_sem, o11, pc0, pc1, pc2, pc3, pc4, pc5, pc6]) hR hb0 rfl
      · have f54 : sl b 54 = .bool true := hdep 11 _ _ rfl rfl (by kernel_rfl)
        exact ok_val' rfl rfl (want 11 54 rfl rfl f54) (by simp [go_sem, o12, nc0, nc1, nc2, nc3, nc4, nc5]) hR hb0 rfl
      · have f54 : sl b 54 = .bool true := hdep 11 _ _ rfl rfl (by kernel_rfl)
        exact ok_val' rfl rfl (want 11 54 rfl rfl f54) (by simp [go_sem, o15, uc0, uc1]) hR hb0 rfl
      · have f55 : sl b 55 = .agg #[.string s0, .int .i64 sh, .int .i64 c1, .int .i64 m1, .slice a1 pn q1, .slice a2 bn q2, .bool al] := hdep 12 _ _ rfl rfl (by kernel_rfl)
        have f56 : sl b 56 = .agg #[.string t0, .int .i64 cc, .int .i64 cm, .slice a3 xn q3, .slice a4 yn q4, .bool cl] := hdep 13 _ _ rfl rfl (by kernel_rfl)
        have f57 : sl b 57 = .agg #[.int .i64 u, .int .i64 0] := hdep 14 _ _ rfl rfl (by kernel_rfl)
        have f54 : sl b 54 = .bool true := hdep 11 _ _ rfl rfl (by kernel_rfl)
        refine ok_enter' rfl rfl (want 11 54 rfl rfl f54) ?_ ((k0 w1 hR).mono ?_)
        · simp [go_sem, f55, f56, f57, cfWhy]
        rintro e w2 ⟨rfl, hb2⟩
        exact ⟨_, rfl, hR.trans (hb2.mono hR.size), hb2, rfl⟩
      · have f54 : sl b 54 = .bool true := hdep 11 _ _ rfl rfl (by kernel_rfl)
        exact ok_val' rfl rfl (want 11 54 rfl rfl f54) (by simp [go_sem, o13, qc0, qc1, qc2, qc3, qc4, qc5, qc6]) hR hb0 rfl
      · have f54 : sl b 54 = .bool true := hdep 11 _ _ rfl rfl (by kernel_rfl)
        exact ok_val' rfl rfl (want 11 54 rfl rfl f54) (by simp [go_sem, o14, yc0, yc1, yc2, yc3, yc4, yc5]) hR hb0 rfl
      · have f54 : sl b 54 = .bool true := hdep 11 _ _ rfl rfl (by kernel_rfl)
        exact ok_val' rfl rfl (want 11 54 rfl rfl f54) (by simp [go_sem, o15, uc0, uc1]) hR hb0 rfl
      · have f59 : sl b 59 = .agg #[.string s2, .int .i64 4, .int .i64 c1, .int .i64 m1, .slice a1 pn q1, .slice a2 bn q2, .bool al] := hdep 16 _ _ rfl rfl (by kernel_rfl)
        have f60 : sl b 60 = .agg #[.string t2, .int .i64 cc, .int .i64 cm, .slice a3 xn q3, .slice a4 yn q4, .bool cl] := hdep 17 _ _ rfl rfl (by kernel_rfl)
        have f61 : sl b 61 = .agg #[.int .i64 u, .int .i64 0] := hdep 18 _ _ rfl rfl (by kernel_rfl)
        have f54 : sl b 54 = .bool true := hdep 11 _ _ rfl rfl (by kernel_rfl)
        refine ok_enter' rfl rfl (want 11 54 rfl rfl f54) ?_ ((k1 w1 hR).mono ?_)
        · simp [go_sem, f59, f60, f61, cfWhy]
        rintro e w2 ⟨rfl, hb2⟩
        exact ⟨_, rfl, hR.trans (hb2.mono hR.size), hb2, rfl⟩
      · have f58 : sl b 58 = .int .i64 R0 := hdep 15 _ _ rfl rfl (by kernel_rfl)
        have f62 : sl b 62 = .int .i64 R0 := hdep 19 _ _ rfl rfl (by kernel_rfl)
        have f54 : sl b 54 = .bool true := hdep 11 _ _ rfl rfl (by kernel_rfl)
        exact ok_val' rfl rfl (want 11 54 rfl rfl f54) (by simp [go_sem, f58, f62]) hR hb0 rfl
      · have f54 : sl b 54 = .bool true := hdep 11 _ _ rfl rfl (by kernel_rfl)
        have f63 : sl b 63 = .bool true := hdep 20 _ _ rfl rfl (by kernel_rfl)
        exact ok_val' rfl rfl (want_none rfl b) (by simp [go_sem, f54, f63]) hR hb0 rfl
      · have f64 : sl b 64 = .bool true := hdep 21 _ _ rfl rfl (by kernel_rfl)
        exact ok_val' rfl rfl (want_none rfl b) (by simp [go_sem, f64]) hR hb0 rfl
      · have f65 : sl b 65 = .bool true := hdep 22 _ _ rfl rfl (by kernel_rfl)
        exact ok_val' rfl rfl (want 22 65 rfl rfl f65) (by simp [go_sem, o11, pc0, pc1, pc2, pc3, pc4, pc5, pc6]) hR hb0 rfl
      · have f65 : sl b 65 = .bool true := hdep 22 _ _ rfl rfl (by kernel_rfl)
        exact ok_val' rfl rfl (want 22 65 rfl rfl f65) (by simp [go_sem, o12, nc0, nc1, nc2, nc3, nc4, nc5]) hR hb0 rfl
      · have f65 : sl b 65 = .bool true := hdep 22 _ _ rfl rfl (by kernel_rfl)
        exact ok_val' rfl rfl (want 22 65 rfl rfl f65) (by simp [go_sem, o15, uc0, uc1]) hR hb0 rfl
      · have f65 : sl b 65 = .bool true := hdep 22 _ _ rfl rfl (by kernel_rfl)
        exact ok_val' rfl rfl (want 22 65 rfl rfl f65) (by simp [go_sem, o16]) hR hb0 rfl
      · have f66 : sl b 66 = .agg #[.string s0, .int .i64 sh, .int .i64 c1, .int .i64 m1, .slice a1 pn q1, .slice a2 bn q2, .bool al] := hdep 23 _ _ rfl rfl (by kernel_rfl)
        have f67 : sl b 67 = .agg #[.string t0, .int .i64 cc, .int .i64 cm, .slice a3 xn q3, .slice a4 yn q4, .bool cl] := hdep 24 _ _ rfl rfl (by kernel_rfl)
        have f68 : sl b 68 = .agg #[.int .i64 u, .int .i64 0] := hdep 25 _ _ rfl rfl (by kernel_rfl)
        have f69 : sl b 69 = .slice (some ⟨A, 0, none⟩) 1 1 := hdep 26 _ _ rfl rfl (by kernel_rfl)
        have f65 : sl b 65 = .bool true := hdep 22 _ _ rfl rfl (by kernel_rfl)
        refine ok_enter' rfl rfl (want 22 65 rfl rfl f65) ?_ ((kA w1 hR).mono ?_)
        · simp [go_sem, f66, f67, f68, f69, cfWhy]
        rintro e w2 ⟨rfl, hb2⟩
        exact ⟨_, rfl, hR.trans (hb2.mono hR.size), hb2, rfl⟩
      · have f65 : sl b 65 = .bool true := hdep 22 _ _ rfl rfl (by kernel_rfl)
        exact ok_val' rfl rfl (want 22 65 rfl rfl f65) (by simp [go_sem, o11, pc0, pc1, pc2, pc3, pc4, pc5, pc6]) hR hb0 rfl
      · have f65 : sl b 65 = .bool true := hdep 22 _ _ rfl rfl (by kernel_rfl)
        exact ok_val' rfl rfl (want 22 65 rfl rfl f65) (by simp [go_sem, o12, nc0, nc1, nc2, nc3, nc4, nc5]) hR hb0 rfl
      · have f65 : sl b 65 = .bool true := hdep 22 _ _ rfl rfl (by kernel_rfl)
        exact ok_val' rfl rfl (want 22 65 rfl rfl f65) (by simp [go_sem, o15, uc0, uc1]) hR hb0 rfl
      · have f65 : sl b 65 = .bool true := hdep 22 _ _ rfl rfl (by kernel_rfl)
        exact ok_val' rfl rfl (want 22 65 rfl rfl f65) (by simp [go_sem, o16]) hR hb0 rfl
      · have f71 : sl b 71 = .agg #[.string s0, .int .i64 sh, .int .i64 c1, .int .i64 m1, .slice a1 pn q1, .slice a2 bn q2, .bool al] := hdep 28 _ _ rfl rfl (by kernel_rfl)
        have f72 : sl b 72 = .agg #[.string t0, .int .i64 cc, .int .i64 cm, .slice a3 xn q3, .slice a4 yn q4, .bool cl] := hdep 29 _ _ rfl rfl (by kernel_rfl)
        have f73 : sl b 73 = .agg #[.int .i64 u, .int .i64 0] := hdep 30 _ _ rfl rfl (by kernel_rfl)
        have f74 : sl b 74 = .slice (some ⟨A, 0, none⟩) 1 1 := hdep 31 _ _ rfl rfl (by kernel_rfl)
        have f65 : sl b 65 = .bool true := hdep 22 _ _ rfl rfl (by kernel_rfl)
        refine ok_enter' rfl rfl (want 22 65 rfl rfl f65) ?_ ((kr w1 hR).mono ?_)
        · simp [go_sem, f71, f72, f73, f74, cfrWhy]
        rintro e w2 ⟨rfl, hb2⟩
        exact ⟨_, rfl, hR.trans (hb2.mono hR.size), hb2, rfl⟩
      · have f70 : sl b 70 = .int .i64 R1 := hdep 27 _ _ rfl rfl (by kernel_rfl)
        have f75 : sl b 75 = .int .i64 R1 := hdep 32 _ _ rfl rfl (by kernel_rfl)
        have f65 : sl b 65 = .bool true := hdep 22 _ _ rfl rfl (by kernel_rfl)
        exact ok_val' rfl rfl (want 22 65 rfl rfl f65) (by simp [go_sem, f70, f75]) hR hb0 rfl
      · have f65 : sl b 65 = .bool true := hdep 22 _ _ rfl rfl (by kernel_rfl)
        have f76 : sl b 76 = .bool true := hdep 33 _ _ rfl rfl (by kernel_rfl)
        exact ok_val' rfl rfl (want_none rfl b) (by simp [go_sem, f65, f76]) hR hb0 rfl
      · have f77 : sl b 77 = .bool true := hdep 34 _ _ rfl rfl (by kernel_rfl)
        exact ok_val' rfl rfl (want_none rfl b) (by simp [go_sem, f77]) hR hb0 rfl
      · cases ho
    case rest =>
      intro b w1 hR hsz hdf hold hF
      have f11 : sl b 11 = .pointer (some ⟨P, 0, none⟩) := hold 11 (by kernel_rfl)
      have f12 : sl b 12 = .pointer (some ⟨P + 1, 0, none⟩) := hold 12 (by kernel_rfl)
      have f13 : sl b 13 = .pointer (some ⟨Q, 0, none⟩) := hold 13 (by kernel_rfl)
      have f14 : sl b 14 = .pointer (some ⟨Y, 0, none⟩) := hold 14 (by kernel_rfl)
      have f15 : sl b 15 = .pointer (some ⟨U, 0, none⟩) := hold 15 (by kernel_rfl)
      have f16 : sl b 16 = .slice (some ⟨A, 0, none⟩) 1 1 := hold 16 (by kernel_rfl)
      have f17 : sl b 17 = .slice (some ⟨B, 0, none⟩) 1 1 := hold 17 (by kernel_rfl)
      have f10 : sl b 10 = .bool true := hF 35 _ _ rfl rfl
      have hB : b = _ := act_list b (show b.tmps.size = 78 from hsz) hdf
      rw [hB]
      simp only [List.range, List.range.loop, List.map_cons, List.map_nil, f11, f12, f13, f14, f15, f16, f17, f10]
      generalize sl b 0 = v0, sl b 1 = v1, sl b 2 = v2, sl b 3 = v3, sl b 4 = v4, sl b 5 = v5, sl b 6 = v6, sl b 7 = v7, sl b 8 = v8, sl b 9 = v9, sl b 18 = v18, sl b 19 = v19, sl b 20 = v20, sl b 21 = v21, sl b 22 = v22, sl b 23 = v23, sl b 24 = v24, sl b 25 = v25, sl b 26 = v26, sl b 27 = v27, sl b 28 = v28, sl b 29 = v29, sl b 30 = v30, sl b 31 = v31, sl b 32 = v32, sl b 33 = v33, sl b 34 = v34, sl b 35 = v35, sl b 36 = v36, sl b 37 = v37, sl b 38 = v38, sl b 39 = v39, sl b 40 = v40, sl b 41 = v41, sl b 42 = v42, sl b 43 = v43, sl b 44 = v44, sl b 45 = v45, sl b 46 = v46, sl b 47 = v47, sl b 48 = v48, sl b 49 = v49, sl b 50 = v50, sl b 51 = v51, sl b 52 = v52, sl b 53 = v53, sl b 54 = v54, sl b 55 = v55, sl b 56 = v56, sl b 57 = v57, sl b 58 = v58, sl b 59 = v59, sl b 60 = v60, sl b 61 = v61, sl b 62 = v62, sl b 63 = v63, sl b 64 = v64, sl b 65 = v65, sl b 66 = v66, sl b 67 = v67, sl b 68 = v68, sl b 69 = v69, sl b 70 = v70, sl b 71 = v71, sl b 72 = v72, sl b 73 = v73, sl b 74 = v74, sl b 75 = v75, sl b 76 = v76, sl b 77 = v77
      clear hB hold hsz hdf hF f11 f12 f13 f14 f15 f16 f17 f10
      go_wp2
      go_ret
      exact ⟨rfl, fin hR hW8⟩

end Go.Proofs.Ytdgeigkdplbdbab
