/- The walk of FitWhy. -/
import Derived.Test.YtdgeigkdplbdbaaK
import Derived.Test.YtdgeigkdplbdbaaBX
import Derived.Test.YtdgeigkdplbdbaaLP
import Derived.Test.YtdgeigkdplbdbaaFR
import Derived.Test.YtdgeigkdplbdbaaBS
import Derived.Test.YtdgeigkdplbdbaaED
import Derived.Deep.DeepCutAuto
namespace Go.Proofs.Ytdgeigkdplbdbaa
open Go.RowKit Go.Maps
set_option linter.unusedSimpArgs false
set_option linter.unusedVariables false

def whyF (s0 t0 : ByteArray) (sh c1 m1 cc cm u v R1 R0 : Int) (a0 a1 a2 a3 a4 : Option Addr) (pn q1 bn q2 xn q3 yn q4 L k len0 cap0 NN : Nat) (l : List PlaceT) (al cl : Bool) : Nat → Value → World → Prop
  | 0, z, _ => z = .agg #[.string s0, .int .i64 sh, .int .i64 c1, .int .i64 m1, .slice a1 pn q1, .slice a2 bn q2, .bool al]
  | 1, z, _ => z = .agg #[.string t0, .int .i64 cc, .int .i64 cm, .slice a3 xn q3, .slice a4 yn q4, .bool cl]
  | 2, z, _ => z = .slice (some ⟨L, 0, none⟩) 3 3
  | 3, z, _ => z = .int .i64 k
  | 4, z, _ => z = .pointer (some ((⟨L, 0, none⟩ : Addr).add (k * 2)))
  | 5, z, _ => z = .agg #[.int .i64 u, .int .i64 v]
  | 6, z, _ => z = .slice a0 len0 cap0
  | 7, z, w => ∃ g c, z = .slice g NN c ∧ (Places w g l ∧ (g = none → c = 0))
  | 8, z, _ => z = .int .i64 R1
  | 9, z, _ => z = .agg #[.string s0, .int .i64 sh, .int .i64 c1, .int .i64 m1, .slice a1 pn q1, .slice a2 bn q2, .bool al]
  | 10, z, _ => z = .agg #[.string t0, .int .i64 cc, .int .i64 cm, .slice a3 xn q3, .slice a4 yn q4, .bool cl]
  | 11, z, _ => z = .slice (some ⟨L, 0, none⟩) 3 3
  | 12, z, _ => z = .int .i64 k
  | 13, z, _ => z = .pointer (some ((⟨L, 0, none⟩ : Addr).add (k * 2)))
  | 14, z, _ => z = .agg #[.int .i64 u, .int .i64 v]
  | 15, z, _ => z = .slice a0 len0 cap0
  | 16, z, w => ∃ g c, z = .slice g NN c ∧ (Places w g l ∧ (g = none → c = 0))
  | 17, z, _ => z = .int .i64 R1
  | 18, z, _ => z = .bool false
  | 19, z, _ => z = .bool false
  | 20, z, _ => z = .agg #[.string s0, .int .i64 sh, .int .i64 c1, .int .i64 m1, .slice a1 pn q1, .slice a2 bn q2, .bool al]
  | 21, z, _ => z = .agg #[.string t0, .int .i64 cc, .int .i64 cm, .slice a3 xn q3, .slice a4 yn q4, .bool cl]
  | 22, z, _ => z = .slice (some ⟨L, 0, none⟩) 3 3
  | 23, z, _ => z = .int .i64 k
  | 24, z, _ => z = .pointer (some ((⟨L, 0, none⟩ : Addr).add (k * 2)))
  | 25, z, _ => z = .agg #[.int .i64 u, .int .i64 v]
  | 26, z, _ => z = .int .i64 R0
  | 27, z, _ => z = .agg #[.string s0, .int .i64 sh, .int .i64 c1, .int .i64 m1, .slice a1 pn q1, .slice a2 bn q2, .bool al]
  | 28, z, _ => z = .agg #[.string t0, .int .i64 cc, .int .i64 cm, .slice a3 xn q3, .slice a4 yn q4, .bool cl]
  | 29, z, _ => z = .slice (some ⟨L, 0, none⟩) 3 3
  | 30, z, _ => z = .int .i64 k
  | 31, z, _ => z = .pointer (some ((⟨L, 0, none⟩ : Addr).add (k * 2)))
  | 32, z, _ => z = .agg #[.int .i64 u, .int .i64 v]
  | 33, z, _ => z = .int .i64 R0
  | 34, z, _ => z = .bool false
  | 35, z, _ => z = .bool false
  | _, _, _ => True

set_option maxRecDepth 100000 in
set_option maxHeartbeats 8000000 in
theorem fitWhy_walk (n name m cpu mem : Int) (a0 : Option Addr) (len0 cap0 : Nat) (z0 : List Int) (w : World) (w0 : IsRow .i64 w a0 len0 cap0 z0) :
    Calls Try.prog 3 #[.int .i64 n, .int .i64 name, .int .i64 m, .int .i64 cpu, .int .i64 mem, .slice a0 len0 cap0] w fun e w' => e = .returned (.bool true) ∧ Below w.heap.size w w' := by
  replace w0 := w0.has
  obtain ⟨ps, hps⟩ : ∃ ps, podPicks n = ps := ⟨_, rfl⟩
  obtain ⟨bs, hbs⟩ : ∃ ps, podBears n = ps := ⟨_, rfl⟩
  obtain ⟨pn, hpn⟩ : ∃ k, ps.length = k := ⟨_, rfl⟩
  obtain ⟨bn, hbn⟩ : ∃ k, bs.length = k := ⟨_, rfl⟩
  obtain ⟨sh, hsh⟩ : ∃ k, 1 + n % 4 = k := ⟨_, rfl⟩
  obtain ⟨c1, hc1⟩ : ∃ k, wrap64 (n.tdiv 4) % 5 = k := ⟨_, rfl⟩
  obtain ⟨m1, hm1⟩ : ∃ k, wrap64 (n.tdiv 20) % 5 = k := ⟨_, rfl⟩
  obtain ⟨al, hal⟩ : ∃ k, (wrap64 (n.tdiv 13) % 6 == 0) = k := ⟨_, rfl⟩
  obtain ⟨u1, hu1⟩ : ∃ k, cpu % 12 = k := ⟨_, rfl⟩
  obtain ⟨v1, hv1⟩ : ∃ k, mem % 12 = k := ⟨_, rfl⟩
  obtain ⟨s0, hs0⟩ : ∃ s, podName 0 = s := ⟨_, rfl⟩
  obtain ⟨t0, ht0⟩ : ∃ s, nameAt name = s := ⟨_, rfl⟩
  have hb1 : 0 ≤ c1 ∧ c1 < 5 ∧ 0 ≤ m1 ∧ m1 < 5 := by omega
  have hb2 : 0 ≤ u1 ∧ u1 < 12 ∧ 0 ≤ v1 ∧ v1 < 12 := by omega
  obtain ⟨NN, hNN⟩ : ∃ N, min 4 len0 = N := ⟨_, rfl⟩
  obtain ⟨l, hl⟩ : ∃ l, besTo z0 NN = l := ⟨_, rfl⟩
  have hlen : l.length = NN := by rw [← hl, besTo_len]
  have kb := fun W (hB : Below w.heap.size w W) => beside_is a0 len0 cap0 z0 W (w0.later hB)
  rw [hNN, hl] at kb
  have kp := fun W => lPod_is 0 n 4 W (by decide) (by decide) (by decide)
  simp only [hps, hbs, hpn, hbn, hsh, hc1, hm1, hal, hs0] at kp
  have kn := fun W => lNode_any name m W
  simp only [ht0] at kn
  clear hps hbs hsh hc1 hm1 hal hs0 ht0 hNN hl w0
  go_enter Try.func3, Try.ntmps3
  go_upto_region 4 with (first
    | (go_at_call 9; refine (known_on _ _ (Below.refl _ _)).mono ?_; rintro e w1 ⟨rfl, hW1⟩)
    | (go_at_call 10; refine (kp _).mono ?_; rintro e w2 ⟨a1, q1, a2, q2, rfl, g1, g2, hb3⟩
       have hW2 := fin hb3 hW1)
    | (go_at_call 11; refine (kn _).mono ?_; rintro e w3 ⟨cc, cm, a3, q3, xs, a4, q4, ys, cl, rfl, hc, g3, g4, hb4⟩
       have hW3 := fin hb4 hW2
       have g1 := (g1.later hb4)
       have g2 := (g2.later hb4)
       obtain ⟨xn, hxn⟩ : ∃ k, xs.length = k := ⟨_, rfl⟩
       obtain ⟨yn, hyn⟩ : ∃ k, ys.length = k := ⟨_, rfl⟩
       simp only [hxn, hyn]))
  have p4 := (Box.new w3 #[.string s0, .int .i64 sh, .int .i64 c1, .int .i64 m1, .slice a1 pn q1, .slice a2 bn q2, .bool al] 28 rfl).up (.cells #[.string t0, .int .i64 cc, .int .i64 cm, .slice a3 xn q3, .slice a4 yn q4, .bool cl] 31)
  have n4 : Box _ (w3.heap.size + 1) _ _ := Box.new (w3.alloc (.cells #[.string s0, .int .i64 sh, .int .i64 c1, .int .i64 m1, .slice a1 pn q1, .slice a2 bn q2, .bool al] 28)) #[.string t0, .int .i64 cc, .int .i64 cm, .slice a3 xn q3, .slice a4 yn q4, .bool cl] 31 (by simp)
  have hW4 := up (up hW3 (.cells #[.string s0, .int .i64 sh, .int .i64 c1, .int .i64 m1, .slice a1 pn q1, .slice a2 bn q2, .bool al] 28)) (.cells #[.string t0, .int .i64 cc, .int .i64 cm, .slice a3 xn q3, .slice a4 yn q4, .bool cl] 31)
  have h34 : Below w3.heap.size w3 ((w3.alloc (.cells #[.string s0, .int .i64 sh, .int .i64 c1, .int .i64 m1, .slice a1 pn q1, .slice a2 bn q2, .bool al] 28)).alloc (.cells #[.string t0, .int .i64 cc, .int .i64 cm, .slice a3 xn q3, .slice a4 yn q4, .bool cl] 31)) := up (up (Below.refl _ _) _) _
  have s1 := g1.new.1.later h34
  have s2 := g2.new.1.later h34
  have s3 := g3.new.1.later h34
  have s4 := g4.new.1.later h34
  have z1 := fun i => g1.short i
  have z2 := fun i => g2.short i
  have z3 := fun i => g3.short i
  have z4 := fun i => g4.short i
  obtain ⟨P, hP⟩ : ∃ P, w3.heap.size = P := ⟨_, rfl⟩
  rw [hP] at p4 n4 ⊢
  clear kp kn g1 g2 g3 g4 hb3 hb4 h34 hW3 hW2 hW1 hP
  generalize (w3.alloc (.cells #[.string s0, .int .i64 sh, .int .i64 c1, .int .i64 m1, .slice a1 pn q1, .slice a2 bn q2, .bool al] 28)).alloc (.cells #[.string t0, .int .i64 cc, .int .i64 cm, .slice a3 xn q3, .slice a4 yn q4, .bool cl] 31) = W4 at *
  go_cut [15] (fun s15 wx => ∃ L x2 y2, s15 = .slice (some ⟨L, 0, none⟩) 3 3 ∧ Box wx L #[.int .i64 u1, .int .i64 v1, .int .i64 0, .int .i64 0, .int .i64 x2, .int .i64 y2] 25 ∧ (0 ≤ x2 ∧ x2 ≤ 9223372036854775807 ∧ 0 ≤ y2 ∧ y2 ≤ 9223372036854775807) ∧ Below W4.heap.size W4 wx)
  case first =>
    go_wp2_with (first
      | (go_at_call_of 12 (Value.int .i64 cpu); refine (within5_any _ _ _ (by decide) (by decide) hu1 _).mono ?_; rintro e w9 ⟨rfl, rfl⟩)
      | (go_at_call_of 12 (Value.int .i64 mem); refine (within5_any _ _ _ (by decide) (by decide) hv1 _).mono ?_; rintro e w9 ⟨rfl, rfl⟩)
      | (go_at_call_of 13 (Value.int .i64 cpu); refine (edge_on _ _ _ (Below.refl _ _)).mono ?_; rintro e w4 ⟨y1, rfl, hy1, hb5⟩)
      | (go_at_call_of 13 (Value.int .i64 mem); refine (edge_on _ _ _ hb5).mono ?_; rintro e w5 ⟨y2, rfl, hy2, hb6⟩))
    all_goals
      go_meet
      case rel => exact ⟨_, _, _, rfl, Box.new _ _ _ rfl, by omega, hb6.alloc hb6.size _⟩
  case rest =>
    obtain ⟨L, x2, y2, rfl, hL, hxy, hwc⟩ := hcut
    have p5 := p4.later hwc
    have n5 := n4.later hwc
    have hW5 := fin hwc hW4
    have s1 := s1.later hwc
    have s2 := s2.later hwc
    have s3 := s3.later hwc
    have s4 := s4.later hwc
    clear p4 n4 hW4 hwc
    go_wp2
    go_loopw [16] (fun i wr => ∃ k : Nat, k ≤ 3 ∧ i = .int .i64 k ∧ Below wc.heap.size wc wr) (fun i _ => 3 - (intOf i).toNat)
    case atStart => exact ⟨0, by omega, rfl, Below.refl _ _⟩
    case round =>
      obtain ⟨k, hk, rfl, hb7⟩ := hrel
      have hWr := fin hb7 hW5
      by_cases hlt : k < 3
      · have hL7 := hL.later hb7
        obtain ⟨u, v, d0, d1, huv⟩ : ∃ u v, wr.cell? ⟨L, k * 2, none⟩ = some (.int .i64 u) ∧ wr.cell? ⟨L, k * 2 + 1, none⟩ = some (.int .i64 v) ∧ (0 ≤ u ∧ u ≤ 9223372036854775807 ∧ 0 ≤ v ∧ v ≤ 9223372036854775807) := by
          rcases (by omega : k = 0 ∨ k = 1 ∨ k = 2) with rfl | rfl | rfl
          · exact ⟨_, _, hL7.cell rfl, hL7.cell rfl, by omega⟩
          · exact ⟨_, _, hL7.cell rfl, hL7.cell rfl, by omega⟩
          · exact ⟨_, _, hL7.cell rfl, hL7.cell rfl, by omega⟩
        have p8 := p5.later hb7
        have n8 := n5.later hb7
        have t1 := s1.later hb7
        have t2 := s2.later hb7
        have t3 := s3.later hb7
        have t4 := s4.later hb7
        have hk3 : (k : Int) < 3 := by omega
        obtain ⟨f1, hf1⟩ : ∃ v, allB ps xs = v := ⟨_, rfl⟩
        obtain ⟨f2, hf2⟩ : ∃ v, allB ys bs = v := ⟨_, rfl⟩
        obtain ⟨f3, hf3⟩ : ∃ x, roomB u v c1 m1 cc cm = x := ⟨_, rfl⟩
        obtain ⟨R1, hR1⟩ : ∃ R, whyN cl f1 f2 f3 al l = R := ⟨_, rfl⟩
        obtain ⟨R0, hR0⟩ : ∃ R, whyN cl f1 f2 f3 al [] = R := ⟨_, rfl⟩
        have kW := fun g c W (hb : Below wr.heap.size wr W) (hp : Places W g l) => why_any s0 sh c1 m1 a1 pn q1 a2 bn q2 al t0 cc cm a3 xn q3 a4 yn q4 cl u v g NN c ps bs xs ys l f1 f2 f3 W hpn hbn hxn hyn hlen (t1.later hb) (t2.later hb) (t3.later hb) (t4.later hb) hp z1 z2 z3 z4 (by omega) (by omega) hf1 hf2 hf3
        have kR := fun g c W (hb : Below wr.heap.size wr W) (hp : Places W g l) => rWhy_any s0 sh c1 m1 a1 pn q1 a2 bn q2 al t0 cc cm a3 xn q3 a4 yn q4 cl u v g NN c ps bs xs ys l f1 f2 f3 W hpn hbn hxn hyn hlen (t1.later hb) (t2.later hb) (t3.later hb) (t4.later hb) hp (by omega) (by omega) hf1 hf2 hf3
        have k0 := fun W (hb : Below wr.heap.size wr W) => why_any s0 sh c1 m1 a1 pn q1 a2 bn q2 al t0 cc cm a3 xn q3 a4 yn q4 cl u v none 0 0 ps bs xs ys [] f1 f2 f3 W hpn hbn hxn hyn rfl (t1.later hb) (t2.later hb) (t3.later hb) (t4.later hb) (places_nil W) z1 z2 z3 z4 (by omega) (by omega) hf1 hf2 hf3
        have k1 := fun W (hb : Below wr.heap.size wr W) => rWhy_any s0 sh c1 m1 a1 pn q1 a2 bn q2 al t0 cc cm a3 xn q3 a4 yn q4 cl u v none 0 0 ps bs xs ys [] f1 f2 f3 W hpn hbn hxn hyn rfl (t1.later hb) (t2.later hb) (t3.later hb) (t4.later hb) (places_nil W) (by omega) (by omega) hf1 hf2 hf3
        simp only [hR1] at kW kR
        simp only [hR0] at k0 k1
        clear hR0 hR1 hf1 hf2 hf3 s1 s2 s3 s4 t1 t2 t3 t4 z1 z2 z3 z4 p5 n5 hL hL7
        go_upto_region 8 with fail
        refine wp_region_rely (fun w1 => Below wr.heap.size wr w1) (fun w1 w2 => Below w1.heap.size w1 w2) (whyF s0 t0 sh c1 m1 cc cm u v R1 R0 a0 a1 a2 a3 a4 pn q1 bn q2 xn q3 yn q4 L k len0 cap0 NN l al cl) (by kernel_rfl) (by kernel_rfl) (Below.refl _ _).drew ?keep ?step ?rest
        case keep =>
          intro i v w1 w2 hS hF
          unfold whyF at *
          split at hF <;> try exact hF
          · obtain ⟨g, c, hv, hp, hn⟩ := hF
            exact ⟨g, c, hv, hp.later hS, hn⟩
          · obtain ⟨g, c, hv, hp, hn⟩ := hF
            exact ⟨g, c, hv, hp.later hS, hn⟩
        case step =>
          intro i o d ho hd b w1 hR hold hdep
          have o5 : sl b 5 = .slice a0 len0 cap0 := hold 5 (by kernel_rfl)
          have o13 : sl b 13 = .pointer (some ⟨P, 0, none⟩) := hold 13 (by kernel_rfl)
          have o14 : sl b 14 = .pointer (some ⟨P + 1, 0, none⟩) := hold 14 (by kernel_rfl)
          have o15 : sl b 15 = .slice (some ⟨L, 0, none⟩) 3 3 := hold 15 (by kernel_rfl)
          have o16 : sl b 16 = .int .i64 k := hold 16 (by kernel_rfl)
          have hb0 := Below.refl w1.heap.size w1
          obtain ⟨pc0, pc1, pc2, pc3, pc4, pc5, pc6⟩ := (p8.later hR).cells7
          obtain ⟨nc0, nc1, nc2, nc3, nc4, nc5⟩ := (n8.later hR).cells6
          have uc0 := cell_below hR d0 (block_lt d0)
          have uc1 := cell_below hR d1 (block_lt d1)
          rcases i with _ | _ | _ | _ | _ | _ | _ | _ | _ | _ | _ | _ | _ | _ | _ | _ | _ | _ | _ | _ | _ | _ | _ | _ | _ | _ | _ | _ | _ | _ | _ | _ | _ | _ | _ | _ | i
          all_goals try (cases ho; cases hd)
          · exact ok_val' rfl rfl (want_none rfl b) (by simp [go_sem, o13, pc0, pc1, pc2, pc3, pc4, pc5, pc6]) hR hb0 rfl
          · exact ok_val' rfl rfl (want_none rfl b) (by simp [go_sem, o14, nc0, nc1, nc2, nc3, nc4, nc5]) hR hb0 rfl
          · exact ok_val' rfl rfl (want_none rfl b) (by simp [go_sem, o15]) hR hb0 rfl
          · exact ok_val' rfl rfl (want_none rfl b) (by simp [go_sem, o16]) hR hb0 rfl
          · have f46 : sl b 46 = .slice (some ⟨L, 0, none⟩) 3 3 := hdep 2 _ _ rfl rfl (by kernel_rfl)
            have f47 : sl b 47 = .int .i64 k := hdep 3 _ _ rfl rfl (by kernel_rfl)
            exact ok_val' rfl rfl (want_none rfl b) (by simp [go_sem, f46, f47, hk3]) hR hb0 rfl
          · have f48 : sl b 48 = .pointer (some ((⟨L, 0, none⟩ : Addr).add (k * 2))) := hdep 4 _ _ rfl rfl (by kernel_rfl)
            exact ok_val' rfl rfl (want_none rfl b) (by simp [go_sem, f48, uc0, uc1]) hR hb0 rfl
          · exact ok_val' rfl rfl (want_none rfl b) (by simp [go_sem, o5]) hR hb0 rfl
          · have f50 : sl b 50 = .slice a0 len0 cap0 := hdep 6 _ _ rfl rfl (by kernel_rfl)
            refine ok_enter' rfl rfl (want_none rfl b) ?_ ((kb w1 (fin hR hWr)).mono ?_)
            · simp [go_sem, f50, cfbeside]
            rintro e w2 ⟨g, c, rfl, hp, hn, hb2⟩
            exact ⟨_, rfl, hR.trans (hb2.mono hR.size), hb2, g, c, rfl, hp, hn⟩
          · have f44 : sl b 44 = .agg #[.string s0, .int .i64 sh, .int .i64 c1, .int .i64 m1, .slice a1 pn q1, .slice a2 bn q2, .bool al] := hdep 0 _ _ rfl rfl (by kernel_rfl)
            have f45 : sl b 45 = .agg #[.string t0, .int .i64 cc, .int .i64 cm, .slice a3 xn q3, .slice a4 yn q4, .bool cl] := hdep 1 _ _ rfl rfl (by kernel_rfl)
            have f49 : sl b 49 = .agg #[.int .i64 u, .int .i64 v] := hdep 5 _ _ rfl rfl (by kernel_rfl)
            obtain ⟨g7, c7, f51, g51⟩ : ∃ g c, sl b 51 = .slice g NN c ∧ (Places w1 g l ∧ (g = none → c = 0)) := hdep 7 _ _ rfl rfl (by kernel_rfl)
            refine ok_enter' rfl rfl (want_none rfl b) ?_ ((kW g7 c7 w1 hR g51.1).mono ?_)
            · simp [go_sem, f44, f45, f49, f51, cfWhy]
            rintro e w2 ⟨rfl, hb2⟩
            exact ⟨_, rfl, hR.trans (hb2.mono hR.size), hb2, rfl⟩
          · exact ok_val' rfl rfl (want_none rfl b) (by simp [go_sem, o13, pc0, pc1, pc2, pc3, pc4, pc5, pc6]) hR hb0 rfl
          · exact ok_val' rfl rfl (want_none rfl b) (by simp [go_sem, o14, nc0, nc1, nc2, nc3, nc4, nc5]) hR hb0 rfl
          · exact ok_val' rfl rfl (want_none rfl b) (by simp [go_sem, o15]) hR hb0 rfl
          · exact ok_val' rfl rfl (want_none rfl b) (by simp [go_sem, o16]) hR hb0 rfl
          · have f55 : sl b 55 = .slice (some ⟨L, 0, none⟩) 3 3 := hdep 11 _ _ rfl rfl (by kernel_rfl)
            have f56 : sl b 56 = .int .i64 k := hdep 12 _ _ rfl rfl (by kernel_rfl)
            exact ok_val' rfl rfl (want_none rfl b) (by simp [go_sem, f55, f56, hk3]) hR hb0 rfl
          · have f57 : sl b 57 = .pointer (some ((⟨L, 0, none⟩ : Addr).add (k * 2))) := hdep 13 _ _ rfl rfl (by kernel_rfl)
            exact ok_val' rfl rfl (want_none rfl b) (by simp [go_sem, f57, uc0, uc1]) hR hb0 rfl
          · exact ok_val' rfl rfl (want_none rfl b) (by simp [go_sem, o5]) hR hb0 rfl
          · have f59 : sl b 59 = .slice a0 len0 cap0 := hdep 15 _ _ rfl rfl (by kernel_rfl)
            refine ok_enter' rfl rfl (want_none rfl b) ?_ ((kb w1 (fin hR hWr)).mono ?_)
            · simp [go_sem, f59, cfbeside]
            rintro e w2 ⟨g, c, rfl, hp, hn, hb2⟩
            exact ⟨_, rfl, hR.trans (hb2.mono hR.size), hb2, g, c, rfl, hp, hn⟩
          · have f53 : sl b 53 = .agg #[.string s0, .int .i64 sh, .int .i64 c1, .int .i64 m1, .slice a1 pn q1, .slice a2 bn q2, .bool al] := hdep 9 _ _ rfl rfl (by kernel_rfl)
            have f54 : sl b 54 = .agg #[.string t0, .int .i64 cc, .int .i64 cm, .slice a3 xn q3, .slice a4 yn q4, .bool cl] := hdep 10 _ _ rfl rfl (by kernel_rfl)
            have f58 : sl b 58 = .agg #[.int .i64 u, .int .i64 v] := hdep 14 _ _ rfl rfl (by kernel_rfl)
            obtain ⟨g16, c16, f60, g60⟩ : ∃ g c, sl b 60 = .slice g NN c ∧ (Places w1 g l ∧ (g = none → c = 0)) := hdep 16 _ _ rfl rfl (by kernel_rfl)
            refine ok_enter' rfl rfl (want_none rfl b) ?_ ((kR g16 c16 w1 hR g60.1).mono ?_)
            · simp [go_sem, f53, f54, f58, f60, cfrWhy]
            rintro e w2 ⟨rfl, hb2⟩
            exact ⟨_, rfl, hR.trans (hb2.mono hR.size), hb2, rfl⟩
          · have f52 : sl b 52 = .int .i64 R1 := hdep 8 _ _ rfl rfl (by kernel_rfl)
            have f61 : sl b 61 = .int .i64 R1 := hdep 17 _ _ rfl rfl (by kernel_rfl)
            exact ok_val' rfl rfl (want_none rfl b) (by simp [go_sem, f52, f61]) hR hb0 rfl
          · have f62 : sl b 62 = .bool false := hdep 18 _ _ rfl rfl (by kernel_rfl)
            exact ok_val' rfl rfl (want_none rfl b) (by simp [go_sem, f62]) hR hb0 rfl
          · have f63 : sl b 63 = .bool false := hdep 19 _ _ rfl rfl (by kernel_rfl)
            exact ok_val' rfl rfl (want 19 63 rfl rfl f63) (by simp [go_sem, o13, pc0, pc1, pc2, pc3, pc4, pc5, pc6]) hR hb0 rfl
          · have f63 : sl b 63 = .bool false := hdep 19 _ _ rfl rfl (by kernel_rfl)
            exact ok_val' rfl rfl (want 19 63 rfl rfl f63) (by simp [go_sem, o14, nc0, nc1, nc2, nc3, nc4, nc5]) hR hb0 rfl
          · have f63 : sl b 63 = .bool false := hdep 19 _ _ rfl rfl (by kernel_rfl)
            exact ok_val' rfl rfl (want 19 63 rfl rfl f63) (by simp [go_sem, o15]) hR hb0 rfl
          · have f63 : sl b 63 = .bool false := hdep 19 _ _ rfl rfl (by kernel_rfl)
            exact ok_val' rfl rfl (want 19 63 rfl rfl f63) (by simp [go_sem, o16]) hR hb0 rfl
          · have f66 : sl b 66 = .slice (some ⟨L, 0, none⟩) 3 3 := hdep 22 _ _ rfl rfl (by kernel_rfl)
            have f67 : sl b 67 = .int .i64 k := hdep 23 _ _ rfl rfl (by kernel_rfl)
            have f63 : sl b 63 = .bool false := hdep 19 _ _ rfl rfl (by kernel_rfl)
            exact ok_val' rfl rfl (want 19 63 rfl rfl f63) (by simp [go_sem, f66, f67, hk3]) hR hb0 rfl
          · have f68 : sl b 68 = .pointer (some ((⟨L, 0, none⟩ : Addr).add (k * 2))) := hdep 24 _ _ rfl rfl (by kernel_rfl)
            have f63 : sl b 63 = .bool false := hdep 19 _ _ rfl rfl (by kernel_rfl)
            exact ok_val' rfl rfl (want 19 63 rfl rfl f63) (by simp [go_sem, f68, uc0, uc1]) hR hb0 rfl
          · have f64 : sl b 64 = .agg #[.string s0, .int .i64 sh, .int .i64 c1, .int .i64 m1, .slice a1 pn q1, .slice a2 bn q2, .bool al] := hdep 20 _ _ rfl rfl (by kernel_rfl)
            have f65 : sl b 65 = .agg #[.string t0, .int .i64 cc, .int .i64 cm, .slice a3 xn q3, .slice a4 yn q4, .bool cl] := hdep 21 _ _ rfl rfl (by kernel_rfl)
            have f69 : sl b 69 = .agg #[.int .i64 u, .int .i64 v] := hdep 25 _ _ rfl rfl (by kernel_rfl)
            have f63 : sl b 63 = .bool false := hdep 19 _ _ rfl rfl (by kernel_rfl)
            refine ok_enter' rfl rfl (want 19 63 rfl rfl f63) ?_ ((k0 w1 hR).mono ?_)
            · simp [go_sem, f64, f65, f69, cfWhy]
            rintro e w2 ⟨rfl, hb2⟩
            exact ⟨_, rfl, hR.trans (hb2.mono hR.size), hb2, rfl⟩
          · have f63 : sl b 63 = .bool false := hdep 19 _ _ rfl rfl (by kernel_rfl)
            exact ok_val' rfl rfl (want 19 63 rfl rfl f63) (by simp [go_sem, o13, pc0, pc1, pc2, pc3, pc4, pc5, pc6]) hR hb0 rfl
          · have f63 : sl b 63 = .bool false := hdep 19 _ _ rfl rfl (by kernel_rfl)
            exact ok_val' rfl rfl (want 19 63 rfl rfl f63) (by simp [go_sem, o14, nc0, nc1, nc2, nc3, nc4, nc5]) hR hb0 rfl
          · have f63 : sl b 63 = .bool false := hdep 19 _ _ rfl rfl (by kernel_rfl)
            exact ok_val' rfl rfl (want 19 63 rfl rfl f63) (by simp [go_sem, o15]) hR hb0 rfl
          · have f63 : sl b 63 = .bool false := hdep 19 _ _ rfl rfl (by kernel_rfl)
            exact ok_val' rfl rfl (want 19 63 rfl rfl f63) (by simp [go_sem, o16]) hR hb0 rfl
          · have f73 : sl b 73 = .slice (some ⟨L, 0, none⟩) 3 3 := hdep 29 _ _ rfl rfl (by kernel_rfl)
            have f74 : sl b 74 = .int .i64 k := hdep 30 _ _ rfl rfl (by kernel_rfl)
            have f63 : sl b 63 = .bool false := hdep 19 _ _ rfl rfl (by kernel_rfl)
            exact ok_val' rfl rfl (want 19 63 rfl rfl f63) (by simp [go_sem, f73, f74, hk3]) hR hb0 rfl
          · have f75 : sl b 75 = .pointer (some ((⟨L, 0, none⟩ : Addr).add (k * 2))) := hdep 31 _ _ rfl rfl (by kernel_rfl)
            have f63 : sl b 63 = .bool false := hdep 19 _ _ rfl rfl (by kernel_rfl)
            exact ok_val' rfl rfl (want 19 63 rfl rfl f63) (by simp [go_sem, f75, uc0, uc1]) hR hb0 rfl
          · have f71 : sl b 71 = .agg #[.string s0, .int .i64 sh, .int .i64 c1, .int .i64 m1, .slice a1 pn q1, .slice a2 bn q2, .bool al] := hdep 27 _ _ rfl rfl (by kernel_rfl)
            have f72 : sl b 72 = .agg #[.string t0, .int .i64 cc, .int .i64 cm, .slice a3 xn q3, .slice a4 yn q4, .bool cl] := hdep 28 _ _ rfl rfl (by kernel_rfl)
            have f76 : sl b 76 = .agg #[.int .i64 u, .int .i64 v] := hdep 32 _ _ rfl rfl (by kernel_rfl)
            have f63 : sl b 63 = .bool false := hdep 19 _ _ rfl rfl (by kernel_rfl)
            refine ok_enter' rfl rfl (want 19 63 rfl rfl f63) ?_ ((k1 w1 hR).mono ?_)
            · simp [go_sem, f71, f72, f76, cfrWhy]
            rintro e w2 ⟨rfl, hb2⟩
            exact ⟨_, rfl, hR.trans (hb2.mono hR.size), hb2, rfl⟩
          · have f70 : sl b 70 = .int .i64 R0 := hdep 26 _ _ rfl rfl (by kernel_rfl)
            have f77 : sl b 77 = .int .i64 R0 := hdep 33 _ _ rfl rfl (by kernel_rfl)
            have f63 : sl b 63 = .bool false := hdep 19 _ _ rfl rfl (by kernel_rfl)
            exact ok_val' rfl rfl (want 19 63 rfl rfl f63) (by simp [go_sem, f70, f77]) hR hb0 rfl
          · have f63 : sl b 63 = .bool false := hdep 19 _ _ rfl rfl (by kernel_rfl)
            have f78 : sl b 78 = .bool false := hdep 34 _ _ rfl rfl (by kernel_rfl)
            exact ok_val' rfl rfl (want_none rfl b) (by simp [go_sem, f63, f78]) hR hb0 rfl
          · cases ho
        case rest =>
          intro b w1 hR hsz hdf hold hF
          have f5 : sl b 5 = .slice a0 len0 cap0 := hold 5 (by kernel_rfl)
          have f13 : sl b 13 = .pointer (some ⟨P, 0, none⟩) := hold 13 (by kernel_rfl)
          have f14 : sl b 14 = .pointer (some ⟨P + 1, 0, none⟩) := hold 14 (by kernel_rfl)
          have f15 : sl b 15 = .slice (some ⟨L, 0, none⟩) 3 3 := hold 15 (by kernel_rfl)
          have f16 : sl b 16 = .int .i64 k := hold 16 (by kernel_rfl)
          have f79 : sl b 79 = .bool false := hF 35 _ _ rfl rfl
          have f0 := hold 0 (by kernel_rfl)
          have f1 := hold 1 (by kernel_rfl)
          have f2 := hold 2 (by kernel_rfl)
          have f3 := hold 3 (by kernel_rfl)
          have f4 := hold 4 (by kernel_rfl)
          have f6 := hold 6 (by kernel_rfl)
          have f7 := hold 7 (by kernel_rfl)
          have f8 := hold 8 (by kernel_rfl)
          have f9 := hold 9 (by kernel_rfl)
          have f10 := hold 10 (by kernel_rfl)
          have f11 := hold 11 (by kernel_rfl)
          have f12 := hold 12 (by kernel_rfl)
          have f17 := hold 17 (by kernel_rfl)
          have f18 := hold 18 (by kernel_rfl)
          have f19 := hold 19 (by kernel_rfl)
          have f20 := hold 20 (by kernel_rfl)
          have f21 := hold 21 (by kernel_rfl)
          have f22 := hold 22 (by kernel_rfl)
          have f23 := hold 23 (by kernel_rfl)
          have f24 := hold 24 (by kernel_rfl)
          have f25 := hold 25 (by kernel_rfl)
          have f26 := hold 26 (by kernel_rfl)
          have f27 := hold 27 (by kernel_rfl)
          have f28 := hold 28 (by kernel_rfl)
          have f29 := hold 29 (by kernel_rfl)
          have f30 := hold 30 (by kernel_rfl)
          have f31 := hold 31 (by kernel_rfl)
          have f32 := hold 32 (by kernel_rfl)
          have f33 := hold 33 (by kernel_rfl)
          have f34 := hold 34 (by kernel_rfl)
          have f35 := hold 35 (by kernel_rfl)
          have f36 := hold 36 (by kernel_rfl)
          have f37 := hold 37 (by kernel_rfl)
          have f38 := hold 38 (by kernel_rfl)
          have f39 := hold 39 (by kernel_rfl)
          have f40 := hold 40 (by kernel_rfl)
          have f41 := hold 41 (by kernel_rfl)
          have f42 := hold 42 (by kernel_rfl)
          have f43 := hold 43 (by kernel_rfl)
          have hB : b = _ := act_list b (show b.tmps.size = 80 from hsz) hdf
          rw [hB]
          simp only [List.range, List.range.loop, List.map_cons, List.map_nil, f0, f1, f2, f3, f4, f5, f6, f7, f8, f9, f10, f11, f12, f13, f14, f15, f16, f17, f18, f19, f20, f21, f22, f23, f24, f25, f26, f27, f28, f29, f30, f31, f32, f33, f34, f35, f36, f37, f38, f39, f40, f41, f42, f43, f79]
          generalize sl b 44 = v44, sl b 45 = v45, sl b 46 = v46, sl b 47 = v47, sl b 48 = v48, sl b 49 = v49, sl b 50 = v50, sl b 51 = v51, sl b 52 = v52, sl b 53 = v53, sl b 54 = v54, sl b 55 = v55, sl b 56 = v56, sl b 57 = v57, sl b 58 = v58, sl b 59 = v59, sl b 60 = v60, sl b 61 = v61, sl b 62 = v62, sl b 63 = v63, sl b 64 = v64, sl b 65 = v65, sl b 66 = v66, sl b 67 = v67, sl b 68 = v68, sl b 69 = v69, sl b 70 = v70, sl b 71 = v71, sl b 72 = v72, sl b 73 = v73, sl b 74 = v74, sl b 75 = v75, sl b 76 = v76, sl b 77 = v77, sl b 78 = v78
          simp only [sl, List.getElem?_toArray, List.getElem?_cons_succ, List.getElem?_cons_zero, Option.getD_some]
          clear hB hold hsz hdf hF f0 f1 f2 f3 f4 f5 f6 f7 f8 f9 f10 f11 f12 f13 f14 f15 f16 f17 f18 f19 f20 f21 f22 f23 f24 f25 f26 f27 f28 f29 f30 f31 f32 f33 f34 f35 f36 f37 f38 f39 f40 f41 f42 f43 f79 p8 n8 d0 d1
          go_wp2
          go_roundw
          case rel => exact ⟨k + 1, by omega, by go_num, hb7.trans (hR.mono hb7.size)⟩
          case measure => simp [intOf]; omega
      · obtain rfl : k = 3 := by omega
        clear s1 s2 s3 s4 z1 z2 z3 z4 p5 n5 hL kb
        go_wp2
        go_ret
        exact ⟨rfl, hWr⟩

end Go.Proofs.Ytdgeigkdplbdbaa
