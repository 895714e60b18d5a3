/- The walk of LedgerFull. -/
import Derived.Test.YtcmgpbdciifdmabRM
import Derived.Test.YtcmgpbdciifdmabGN
namespace Go.Proofs.Ytcmgpbdciifdmab
open Go.RowKit Go.Maps

theorem wf_small (g : Int) (h0 : 0 ≤ g) (h1 : g ≤ 100000) : (Lit.int .i64 g).wf = true := by
  have e1 : IntKind.i64.min = -9223372036854775808 := rfl
  have e2 : IntKind.i64.max = 9223372036854775807 := rfl
  simp only [Lit.wf, e1, e2, Bool.and_eq_true, decide_eq_true_eq]
  omega
theorem wf_nat (k : Nat) (h : k ≤ 1000) : (Lit.int .i64 ((k : Int) + 1)).wf = true := wf_small _ (by omega) (by omega)
theorem One.apartG {w : World} {L : Nat} {fp : Nat → Prop} {r : Rec} {G : List (Int × Grp)} (h : One w L fp r G) : Apart G := by
  obtain ⟨_, _, p, q, hI⟩ := h
  exact hI.gangs.apart

set_option maxRecDepth 100000 in
set_option maxHeartbeats 2000000 in
theorem ledgerFull_walk (a0 : Option Addr) (len0 cap0 : Nat) (z0 : List Int) (cpu : Int) (w : World) (w0 : IsRow .i64 w a0 len0 cap0 z0) :
    Calls Try.prog 3 #[.slice a0 len0 cap0, .int .i64 cpu] w fun e w' => e = .returned (.bool true) ∧ Below w.heap.size w w' := by
  have hrow := w0.has
  clear w0
  obtain ⟨c, hc⟩ : ∃ c, cpu % 60 = c := ⟨_, rfl⟩
  have hc0 : 0 ≤ c ∧ c < 60 := by omega
  have kc := fun W => within_any cpu 60 c (by decide) (by decide) hc W
  clear hc
  go_enter Try.func3, Try.ntmps3
  go_wp2_with (first
    | (go_at_call 7; refine (known_any w).mono ?_; rintro e w1 ⟨rfl, hb1⟩; have kr := room_any c 1000 (by omega) (by decide) w1)
    | (go_at_call 8; refine (kc _).mono ?_; rintro e w2 ⟨rfl, rfl⟩)
    | (go_at_call 9; refine kr.mono ?_; rintro e w3 ⟨L, fp, r, rfl, hO3, hc3, hu3, hm3, hk3, hf3, hb3⟩))
  have hcp : r.cpu = c := congrArg (fun x => x.2.1) hc3
  have hcm : r.mem = 1000 := congrArg (fun x => x.2.2.1) hc3
  have hbw : Below w.heap.size w w3 := hb1.trans (hb3.mono hb1.size)
  have hfw : ∀ b, fp b → w.heap.size ≤ b := fun b hb => Nat.le_trans hb1.size (hf3 b hb)
  clear kr kc hb1 hb3 hf3 hc3
  go_loopw [7, 8, 9] (fun v n i wr => ∃ (k m : Nat) (U : Int) (fp : Nat → Prop) (r : Rec) (G : List (Int × Grp)), k ≤ 30 ∧ i = .int .i64 k ∧ v = .int .i64 U ∧ n = .int .i64 m ∧ m ≤ k ∧ 0 ≤ U ∧ U ≤ c ∧ One wr L fp r G ∧ r.cpu = c ∧ r.mem = 1000 ∧ r.u = U ∧ r.m = m ∧ r.k = m ∧ (∀ g, (k : Int) < g → look G g = none) ∧ G.length ≤ k ∧ (∀ b, fp b → w.heap.size ≤ b) ∧ Below w.heap.size w wr) (fun _ _ i _ => 30 - (intOf i).toNat)
  case atStart => exact ⟨0, 0, 0, fp, r, [], by omega, rfl, rfl, rfl, by omega, by omega, by omega, hO3, hcp, hcm, hu3, hm3, hk3, (fun _ _ => rfl), by simp, hfw, hbw⟩
  case round =>
    clear hO3 hcp hcm hu3 hm3 hk3 hbw hfw
    obtain ⟨k, m, U, fp, r, G, hk, rfl, rfl, rfl, hmk, hU0, hUc, hO, hcp, hcm, hu, hm, hkk, hG, hGl, hfw, hbw⟩ := hrel
    by_cases hlt : k < len0 ∧ k < 30
    · obtain ⟨x, z, rfl, hz⟩ := hrow.at hbw (Nat.le_refl _) k hlt.1
      obtain ⟨d, hd⟩ : ∃ d, z % 9 = d := ⟨_, rfl⟩
      have hd0 : 0 ≤ d ∧ d < 9 := by omega
      have kd := fun W => within_any z 9 d (by decide) (by decide) hd W
      have h1 : k < len0 := hlt.1
      have h2 : (k : Int) < 30 := by omega
      have hO1 := hO.later (up (Below.refl _ _) (.cells #[.string ⟨#[112]⟩, .string nB, .int .i64 d, .int .i64 1, .bool false] 32))
      have hb1 := up hbw (.cells #[.string ⟨#[112]⟩, .string nB, .int .i64 d, .int .i64 1, .bool false] 32)
      have hwf := wf_nat k (Nat.le_trans hk (by decide))
      have hGn := hG ((k : Int) + 1) (by omega)
      have hap := hO.apartG
      clear hd hrow
      by_cases hfit : U + d ≤ c
      · have kt := take_ok _ L fp r G hO1 ((k : Int) + 1) hwf hGn (by omega) wr.heap.size 0 1 ⟨⟨#[112]⟩, nB, d, 1, false⟩ (pls_lit wr _) hO.outs rfl ⟨hd0.1, show (0 : Int) ≤ 1 by decide⟩ (by rw [hu, hm, hcp, hcm]; simp; omega)
        have ku : ∀ (w5 : World) (fp5 : Nat → Prop) (G5 : List (Int × Grp)), One w5 L fp5 (r.plus ⟨⟨#[112]⟩, nB, d, 1, false⟩) G5 → Calls Try.prog 12 #[.pointer (some ⟨L, 0, none⟩), .string nB] w5 fun e w' => e = .returned (.tuple #[.agg #[.int .i64 (U + d), .int .i64 ((m : Int) + 1)], .int .i64 ((m : Int) + 1)]) ∧ Below w5.heap.size w5 w' := by
          intro w5 fp5 G5 hO5
          have := used_one w5 L fp5 _ _ hO5
          have e1 : (r.plus ⟨⟨#[112]⟩, nB, d, 1, false⟩).u = U + d := by show r.u + d = U + d; rw [hu]
          have e2 : (r.plus ⟨⟨#[112]⟩, nB, d, 1, false⟩).m = (m : Int) + 1 := by show r.m + 1 = _; rw [hm]
          have e3 : (r.plus ⟨⟨#[112]⟩, nB, d, 1, false⟩).k = (m : Int) + 1 := by show wrap64 (r.k + 1) = _; rw [hkk]; unfold wrap64; omega
          rwa [e1, e2, e3] at this
        clear hO1
        go_wp2_with (first
          | (go_at_call 8; refine (kd _).mono ?_; rintro e wr ⟨rfl, rfl⟩)
          | (go_at_call 10; refine kt.mono ?_; rintro e w5 ⟨rfl, fp5, a5, c5, hO5, hf5, hK5⟩; have ku5 := ku _ _ _ hO5)
          | (go_at_call 12; refine ku5.mono ?_; rintro e w6 ⟨rfl, h6⟩))
        have hb5 : Below w.heap.size w w5 := hb1.trans (hK5.below hb1.size hfw)
        have hb6 : Below w.heap.size w w6 := hb5.trans (h6.mono hb5.size)
        go_roundw
        case rel =>
          refine ⟨k + 1, m + 1, U + d, fp5, _, _, by omega, by go_num, rfl, by go_num, by omega, by omega, hfit, (hO5.later h6).later (up (Below.refl _ _) _), hcp, hcm, by show r.u + d = _; rw [hu], by show r.m + 1 = _; rw [hm]; simp, by show wrap64 (r.k + 1) = _; rw [hkk]; unfold wrap64; omega, ?_, ?_, ?_, up hb6 _⟩
          · intro g hg
            rw [look_put, if_neg (by omega)]
            exact hG g (by omega)
          · rw [length_put iK hap]; split <;> omega
          · intro b hb
            exact (hf5 b hb).elim (hfw b) (fun h => Nat.le_trans hb1.size h)
        case measure => simp [intOf]; omega
      · have kt := take_no _ L fp r G hO1 ((k : Int) + 1) hwf hGn (by omega) wr.heap.size 0 1 ⟨⟨#[112]⟩, nB, d, 1, false⟩ (pls_lit wr _) hO.outs rfl ⟨hd0.1, show (0 : Int) ≤ 1 by decide⟩ (by rw [hu, hm, hcp, hcm]; simp; omega)
        have ku : ∀ (w5 : World), One w5 L fp r G → Calls Try.prog 12 #[.pointer (some ⟨L, 0, none⟩), .string nB] w5 fun e w' => e = .returned (.tuple #[.agg #[.int .i64 U, .int .i64 m], .int .i64 m]) ∧ Below w5.heap.size w5 w' := by
          intro w5 hO5
          have := used_one w5 L fp _ _ hO5
          rwa [hu, hm, hkk] at this
        have kp : ∀ (w5 : World), One w5 L fp r G → Calls Try.prog 11 #[.pointer (some ⟨L, 0, none⟩), .int .i64 ((k : Int) + 1)] w5 fun e w' => (∃ a c, e = .returned (.slice a 0 c)) ∧ Below w5.heap.size w5 w' := by
          intro w5 hO5
          refine (places_one w5 L fp r G hO5 ((k : Int) + 1) hwf [] (by rw [hGn]; rfl) 0 rfl).mono ?_
          rintro e w' ⟨a, c, rfl, _, _, _, _, h5⟩
          exact ⟨⟨a, c, rfl⟩, h5⟩
        have hfit' : c < U + d := by omega
        clear hfit
        go_upto_if 49 with (first
          | (go_at_call 8; refine (kd _).mono ?_; rintro e wr ⟨rfl, rfl⟩)
          | (go_at_call 10; refine kt.mono ?_; rintro e w5 ⟨rfl, h5⟩))
        have hO5 := hO1.later h5
        have kp5 := kp _ hO5
        have PK : Hid (r.cpu = c ∧ r.mem = 1000 ∧ r.u = U ∧ r.m = m ∧ r.k = m ∧ ∀ g, (k : Int) < g → look G g = none) := ⟨hcp, hcm, hu, hm, hkk, hG⟩
        clear kt kp kd hO1 hz hG hGn hap hcp hcm hu hm hkk hwf hd0
        go_upto_region 17 with (go_at_call 11; refine kp5.mono ?_; rintro e w6 ⟨⟨a6, c6, rfl⟩, h6⟩)
        have ku6 := ku _ (hO5.later h6)
        clear kp5 ku
        go_wp2_with (go_at_call 12; refine ku6.mono ?_; rintro e w7 ⟨rfl, h7⟩)
        have hb5 : Below w.heap.size w w5 := hb1.trans (h5.mono hb1.size)
        have hb6 : Below w.heap.size w w6 := hb5.trans (h6.mono hb5.size)
        have hb7 : Below w.heap.size w w7 := hb6.trans (h7.mono hb6.size)
        go_roundw
        case rel =>
          obtain ⟨hcp, hcm, hu, hm, hkk, hG⟩ := PK.out
          exact ⟨k + 1, m, U, fp, r, G, by omega, by go_num, rfl, rfl, by omega, hU0, hUc, ((hO5.later h6).later h7).later (up (Below.refl _ _) _), hcp, hcm, hu, hm, hkk, fun g hg => hG g (by omega), by omega, hfw, up hb7 _⟩
        case measure => simp [intOf]; omega
    · by_cases h1 : k < len0
      · have h2 : ¬ (k : Int) < 30 := by omega
        clear hlt hrow
        go_wp2
        go_ret
        exact ⟨rfl, hbw⟩
      · clear hlt hrow
        go_wp2
        go_ret
        exact ⟨rfl, hbw⟩

end Go.Proofs.Ytcmgpbdciifdmab
