/- The walk of LedgerShrinks. -/
import Derived.Test.YtcmgpbdciifdmaaRM
import Derived.Test.YtcmgpbdciifdmaaGN
namespace Go.Proofs.Ytcmgpbdciifdmaa
open Go.RowKit Go.Maps

theorem One.set {w : World} {L : Nat} {fp : Nat → Prop} {r : Rec} {G : List (Int × Grp)} (h : One w L fp r G) {b : Nat} (hb : ¬ fp b) (i : Nat) (v : Value) : One (w.setCell ⟨b, i, none⟩ v) L fp r G := ⟨h.1, h.2.1, h.2.2.elim fun p h => h.elim fun q h => ⟨p, q, h.set hb i v⟩⟩

set_option maxRecDepth 100000 in
set_option maxHeartbeats 8000000 in
theorem ledgerShrinks_walk (used cap less : Int) (w : World) : Calls Try.prog 6 #[.int .i64 used, .int .i64 cap, .int .i64 less] w fun e w' => e = .returned (.bool true) ∧ Below w.heap.size w w' := by
  obtain ⟨c, hc⟩ : ∃ c, cap % 100 = c := ⟨_, rfl⟩
  have hc0 : 0 ≤ c ∧ c < 100 := by omega
  have hw : wrap64 (c + 1) = c + 1 := by unfold wrap64; omega
  obtain ⟨u, hu⟩ : ∃ u, used % (c + 1) = u := ⟨_, rfl⟩
  have hu0 : 0 ≤ u ∧ u ≤ c := by have h1 := Int.emod_nonneg used (show c + 1 ≠ 0 by omega); have h2 := Int.emod_lt_of_pos used (show 0 < c + 1 by omega); omega
  obtain ⟨k, hk⟩ : ∃ k, less % (c + 1) = k := ⟨_, rfl⟩
  have hk0 : 0 ≤ k ∧ k ≤ c := by have h1 := Int.emod_nonneg less (show c + 1 ≠ 0 by omega); have h2 := Int.emod_lt_of_pos less (show 0 < c + 1 by omega); omega
  have kc := fun W => within_any cap 100 c (by decide) (by decide) hc W
  have ku := fun W => within_any used (c + 1) u (by omega) (by omega) hu W
  have kk := fun W => within_any less (c + 1) k (by omega) (by omega) hk W
  clear hc hu hk
  go_enter Try.func6, Try.ntmps6
  go_upto_region 10 with (first
    | (go_at_call 9; refine (known_any w).mono ?_; rintro e w1 ⟨rfl, hb1⟩; have kr := new_any w1)
    | (go_at_call 10; refine kr.mono ?_; rintro e w2 ⟨L, fp, rfl, hI2, hf2, hb2⟩)
    | (go_at_call_of 11 (Value.int .i64 100); refine (kc _).mono ?_; rintro e w2 ⟨rfl, rfl⟩)
    | (go_at_call_of 11 (Value.int .i64 used); refine (ku _).mono ?_; rintro e w2 ⟨rfl, rfl⟩)
    | (go_at_call_of 11 (Value.int .i64 less); refine (kk _).mono ?_; rintro e w2 ⟨rfl, rfl⟩))
  have hI3 := hI2.later (up (Below.refl _ _) (.cells #[.string nB, .int .i64 c, .int .i64 c, .slice none 0 0, .slice none 0 0, .bool false] 36))
  have hB3 : Box (w2.alloc (.cells #[.string nB, .int .i64 c, .int .i64 c, .slice none 0 0, .slice none 0 0, .bool false] 36)) w2.heap.size #[.string nB, .int .i64 c, .int .i64 c, .slice none 0 0, .slice none 0 0, .bool false] 36 := Box.new w2 _ _ rfl
  have hbw : Below w.heap.size w w2 := hb1.trans (hb2.mono hb1.size)
  have hb3 := up hbw (.cells #[.string nB, .int .i64 c, .int .i64 c, .slice none 0 0, .slice none 0 0, .bool false] 36)
  have hfw : ∀ b, fp b → w.heap.size ≤ b := fun b hb => Nat.le_trans hb1.size (hf2 b hb)
  have nB2 : ¬ fp w2.heap.size := hI2.outs
  have hBw : w.heap.size ≤ w2.heap.size := hbw.size
  generalize w2.alloc (.cells #[.string nB, .int .i64 c, .int .i64 c, .slice none 0 0, .slice none 0 0, .bool false] 36) = W3 at hI3 hB3 hb3 ⊢
  generalize w2.heap.size = N at hB3 nB2 hBw ⊢
  have kp := put_first W3 L fp none none [] hI3 c c (by omega) (by omega)
  obtain ⟨y0, y1, y2, y3, y4, y5⟩ := hB3.cells6
  clear kc ku kk hI2 hI3 hb1 hb2 hf2 kr hbw
  have kt : ∀ (w4 : World) (fp4 : Nat → Prop) (r : Rec), One w4 L fp4 r [] → r.core = (nB, c, c, [], [], false) → r.u = 0 → r.m = 0 → r.k = 0 →
      Calls Try.prog 22 #[.pointer (some ⟨L, 0, none⟩), .int .i64 1, .slice (some ⟨w4.heap.size, 0, none⟩) 1 1] (w4.alloc (.cells #[.string ⟨#[112]⟩, .string nB, .int .i64 u, .int .i64 0, .bool false] 49)) fun e w' => e = .returned (.int .i64 0) ∧ ∃ fp' r' a c', One w' L fp' r' (put iK [] 1 ⟨a, c', [⟨⟨#[112]⟩, nB, u, 0, false⟩]⟩) ∧ r'.core = (nB, c, c, [], [], false) ∧ r'.u = u ∧ r'.m = 0 ∧ r'.k = 1 ∧ (∀ b, fp' b → fp4 b ∨ w4.heap.size ≤ b) ∧ Kept fp4 w4 w' ∧ w4.heap.size < w'.heap.size := by
    intro w4 fp4 r hO hc4 h1 h2 h3
    have hcp : r.cpu = c := congrArg (fun x => x.2.1) hc4
    have hcm : r.mem = c := congrArg (fun x => x.2.2.1) hc4
    refine (take_ok _ L fp4 r [] (hO.later (up (Below.refl _ _) (.cells #[.string ⟨#[112]⟩, .string nB, .int .i64 u, .int .i64 0, .bool false] 49))) 1 (by decide) rfl (by simp) w4.heap.size 0 1 ⟨⟨#[112]⟩, nB, u, 0, false⟩ (pls_lit w4 _) hO.outs rfl ⟨hu0.1, Int.le_refl 0⟩ (by rw [h1, h2, hcp, hcm]; simp; omega)).mono ?_
    rintro e w' ⟨rfl, fp', a, c', hO', hf', hK'⟩
    have hz := hK'.size
    simp only [World.size_alloc] at hz
    refine ⟨rfl, fp', _, a, c', hO', hc4, by show r.u + u = u; omega, by show r.m + 0 = 0; omega, by show wrap64 (r.k + 1) = 1; rw [h3]; unfold wrap64; omega, fun b hb => (hf' b hb).imp_right (fun h => by simp at h; omega), (Kept.of_below (up (Below.refl _ _) _)).trans hK', by omega⟩
  go_upto_region 12 with (first
    | (go_at_call 13; refine kp.mono ?_; rintro e w4 ⟨rfl, fp4, r4, hO4, hc4, hu4, hm4, hk4, hf4, hK4⟩; have kt4 := kt w4 fp4 r4 hO4 hc4 hu4 hm4 hk4)
    | (go_at_call 22; refine kt4.mono ?_; rintro e w5 ⟨rfl, fp5, r5, a5, c5, hO5, hc5, hu5, hm5, hk5, hf5, hK5, hz5⟩))
  have nB4 : ¬ fp4 N := fun h => by rcases hf4 _ h with h | h; exact nB2 h; have := hB3.lt; omega
  have hB4 := hK4.box hB3 nB2
  have hf4' : ∀ b, fp4 b → w.heap.size ≤ b := fun b hb => (hf4 b hb).elim (hfw b) (fun h => Nat.le_trans hb3.size h)
  have hb4 : Below w.heap.size w w4 := hb3.trans (hK4.below hb3.size hfw)
  have nB5 : ¬ fp5 N := fun h => by rcases hf5 _ h with h | h; exact nB4 h; have := hB4.lt; omega
  have hB5 := hK5.box hB4 nB4
  have hf5' : ∀ b, fp5 b → w.heap.size ≤ b := fun b hb => (hf5 b hb).elim (hf4' b) (fun h => Nat.le_trans hb4.size h)
  have hb5 : Below w.heap.size w w5 := hb4.trans (hK5.below hb4.size hf4')
  clear kp kt kt4 y0 y1 y2 y3 y4 y5 hO4 hc4 hu4 hm4 hk4 hf4 hK4 hf5 hK5 hz5 hB3 hB4 hb3 hb4 nB2 nB4 hfw hf4'
  obtain ⟨y0, y1, y2, y3, y4, y5⟩ := hB5.cells6
  have f1 := hB5.frozen 1
  go_upto_region 13 with fail
  have hO6 := hO5.set nB5 1 (.int .i64 k)
  have hB6 := hB5.set 1 (.int .i64 k)
  simp only [List.setIfInBounds_toArray, List.set_cons_succ, List.set_cons_zero] at hB6
  have hb6 := hb5.setCell (p := ⟨N, 1, none⟩) hBw (.int .i64 k)
  generalize w5.setCell ⟨N, 1, none⟩ (.int .i64 k) = W6 at hO6 hB6 hb6 ⊢
  clear y0 y1 y2 y3 y4 y5 f1 hO5 hB5 hb5
  obtain ⟨y0, y1, y2, y3, y4, y5⟩ := hB6.cells6
  have hcp : r5.cpu = c := congrArg (fun x => x.2.1) hc5
  have hcm : r5.mem = c := congrArg (fun x => x.2.2.1) hc5
  have hs6 : Strs W6 none [] := ⟨by simp, by simp⟩
  have hkg : ∀ (W : World) (fp' : Nat → Prop) (r' : Rec), One W L fp' r' (put iK [] 1 ⟨a5, c5, [⟨⟨#[112]⟩, nB, u, 0, false⟩]⟩) → r'.k = 1 → Calls Try.prog 15 #[.pointer (some ⟨L, 0, none⟩), .string nB] W fun e w' => e = .returned (.int .i64 7) ∧ Below W.heap.size W w' := fun W fp' r' hO hk => gone_err W L fp' r' _ hO nB nB_small 7 (by unfold goneE; rw [look_one, if_pos rfl]; simp [hk]) (by decide)
  have hkv : ∀ (W : World) (fp' : Nat → Prop) (r' : Rec), One W L fp' r' (put iK [] 1 ⟨a5, c5, [⟨⟨#[112]⟩, nB, u, 0, false⟩]⟩) → r'.u = u → r'.m = 0 → Calls Try.prog 18 #[.pointer (some ⟨L, 0, none⟩), .int .i64 1] W fun e w' => e = .returned (.int .i64 0) ∧ One w' L fp' (r'.minus ⟨⟨#[112]⟩, nB, u, 0, false⟩) [] ∧ Kept fp' W w' := fun W fp' r' hO h1 h2 => give_one W L fp' r' _ hO 1 (by decide) a5 c5 _ rfl rfl ⟨hu0.1, Int.le_refl 0⟩ ⟨by rw [h1]; exact Int.le_refl _, by rw [h2]; exact Int.le_refl _⟩
  have hkd : ∀ (W : World) (fp' : Nat → Prop) (r' : Rec), One W L fp' (r'.minus ⟨⟨#[112]⟩, nB, u, 0, false⟩) [] → r'.k = 1 → Calls Try.prog 15 #[.pointer (some ⟨L, 0, none⟩), .string nB] W fun e w' => e = .returned (.int .i64 0) ∧ (∃ p q, IsL w' L fp' p q [] []) ∧ Kept fp' W w' := fun W fp' r' hO hk => gone_one W L fp' _ _ hO (by show wrap64 (r'.k - 1) = 0; rw [hk]; unfold wrap64; omega)
  by_cases huk : u ≤ k
  · have kp : Calls Try.prog 13 #[.pointer (some ⟨L, 0, none⟩), .agg #[.string nB, .int .i64 k, .int .i64 c, .slice none 0 0, .slice none 0 0, .bool false]] W6 fun e w' => e = .returned (.int .i64 0) ∧ ∃ fp' r', One w' L fp' r' (put iK [] 1 ⟨a5, c5, [⟨⟨#[112]⟩, nB, u, 0, false⟩]⟩) ∧ r'.core = (nB, k, c, [], [], false) ∧ r'.u = u ∧ r'.m = 0 ∧ r'.k = 1 ∧ (∀ b, fp' b → w.heap.size ≤ b) ∧ Below w.heap.size w w' := by
      refine (put_again W6 L fp5 r5 _ hO6 k c none 0 0 false [] hs6 rfl SP.none (fun x hx => by cases hx) (node_one _ _ (by omega) (by omega)) (by rw [hu5, hm5]; omega) (by omega)).mono ?_
      rintro e w' ⟨rfl, fp', r', h1, h2, h3, h4, h5, h6, h7⟩
      exact ⟨rfl, fp', r', h1, h2, by rw [h3, hu5], by rw [h4, hm5], by rw [h5, hk5], fun b hb => (h6 b hb).elim (hf5' b) (fun h => Nat.le_trans hb6.size h), hb6.trans (h7.below hb6.size hf5')⟩
    clear hO6 hB6 hb6 hs6 hf5' hc5 hu5 hm5 hk5 hcp hcm nB5
    have huk' : ¬ k < u := by omega
    go_upto_region 18 with (first
      | (go_at_call 13; refine kp.mono ?_; rintro e w7 ⟨rfl, fp7, r7, hO7, hc7, hu7, hm7, hk7, hf7, hb7⟩; have kn := nodes_one w7 L fp7 r7 _ hO7)
      | (go_at_call 25; refine kn.mono ?_; rintro e w8 ⟨g, cg, r', rfl, hN, hcore, hcg, h8⟩))
    obtain ⟨B', hB', hge, hlt, hat, hnew⟩ := hN 0 r' rfl
    cases hB'
    rw [hc7] at hcore
    obtain ⟨nm', cpu', mem', a1', c1', xs', a2', c2', ys', cl', u', m', k'⟩ := r'
    simp only [Rec.core, Prod.mk.injEq] at hcore
    obtain ⟨rfl, rfl, rfl, rfl, rfl, rfl⟩ := hcore
    obtain ⟨t0, t1, t2, t3, t4, t5⟩ := hat
    simp only [Nat.zero_mul, Nat.zero_add] at t0 t1 t2 t3 t4 t5
    have hO8 := hO7.later h8
    have hb8 : Below w.heap.size w w8 := hb7.trans (h8.mono hb7.size)
    have kg := hkg w8 fp7 r7 hO8 hk7
    clear hN hnew hO7 hb7 kn kp hc7 hge hlt
    go_upto_region 20 with (go_at_call 15; refine kg.mono ?_; rintro e w9 ⟨rfl, h9⟩)
    have hb9 : Below w.heap.size w w9 := hb8.trans (h9.mono hb8.size)
    have kv := hkv w9 fp7 r7 (hO8.later h9) hu7 hm7
    clear kg hkg hkv hO8 hb8 h9 t0 t1 t2 t3 t4 t5 huk' huk
    go_wp2_with (first
      | (go_at_call 18; refine kv.mono ?_; rintro e w10 ⟨rfl, hO10, hK10⟩; have kd := hkd w10 fp7 r7 hO10 hk7; clear hkd)
      | (go_at_call 15; refine kd.mono ?_; rintro e w11 ⟨rfl, ⟨p11, q11, hI11⟩, hK11⟩; clear kd; have ke := gone_no w11 L fp7 p11 q11 [] [] hI11 nB nB_small 5 rfl (by decide))
      | (go_at_call 15; refine ke.mono ?_; rintro e w12 ⟨rfl, h12⟩; have kn2 := nodes_any w12 L fp7 p11 q11 [] [] (hI11.later h12) (by simp) (by simp))
      | (go_at_call 25; refine kn2.mono ?_; rintro e w13 ⟨g13, c13, l13, rfl, _, _, _, h13⟩))
    go_ret
    have hb10 := hb9.trans (hK10.below hb9.size hf7)
    have hb11 := hb10.trans (hK11.below hb10.size hf7)
    have hb12 := hb11.trans (h12.mono hb11.size)
    exact ⟨rfl, hb12.trans (h13.mono hb12.size)⟩
  · have kp : Calls Try.prog 13 #[.pointer (some ⟨L, 0, none⟩), .agg #[.string nB, .int .i64 k, .int .i64 c, .slice none 0 0, .slice none 0 0, .bool false]] W6 fun e w' => e = .returned (.int .i64 6) ∧ ∃ fp' r', One w' L fp' r' (put iK [] 1 ⟨a5, c5, [⟨⟨#[112]⟩, nB, u, 0, false⟩]⟩) ∧ r'.core = (nB, c, c, [], [], false) ∧ r'.u = u ∧ r'.m = 0 ∧ r'.k = 1 ∧ (∀ b, fp' b → w.heap.size ≤ b) ∧ Below w.heap.size w w' := by
      refine (put_same W6 L fp5 r5 _ hO6 nB k c none 0 0 false [] nB_small hs6 rfl SP.none (fun x hx => by cases hx) 6 ?_ (by decide)).mono ?_
      · unfold putE
        have hl : (look [(nB, r5)] nB).getD zrec = r5 := by rw [look_one, if_pos rfl]; rfl
        rw [node_one k c (by omega) (by omega), hl, hu5]
        simp [huk]
      · rintro e w' ⟨rfl, h1⟩
        exact ⟨rfl, fp5, r5, hO6.later h1, hc5, hu5, hm5, hk5, hf5', hb6.trans (h1.mono hb6.size)⟩
    clear hO6 hB6 hb6 hs6 hf5' hc5 hu5 hm5 hk5 hcp hcm nB5
    have huk' : k < u := by omega
    go_upto_region 18 with (first
      | (go_at_call 13; refine kp.mono ?_; rintro e w7 ⟨rfl, fp7, r7, hO7, hc7, hu7, hm7, hk7, hf7, hb7⟩; have kn := nodes_one w7 L fp7 r7 _ hO7)
      | (go_at_call 25; refine kn.mono ?_; rintro e w8 ⟨g, cg, r', rfl, hN, hcore, hcg, h8⟩))
    obtain ⟨B', hB', hge, hlt, hat, hnew⟩ := hN 0 r' rfl
    cases hB'
    rw [hc7] at hcore
    obtain ⟨nm', cpu', mem', a1', c1', xs', a2', c2', ys', cl', u', m', k'⟩ := r'
    simp only [Rec.core, Prod.mk.injEq] at hcore
    obtain ⟨rfl, rfl, rfl, rfl, rfl, rfl⟩ := hcore
    obtain ⟨t0, t1, t2, t3, t4, t5⟩ := hat
    simp only [Nat.zero_mul, Nat.zero_add] at t0 t1 t2 t3 t4 t5
    have hO8 := hO7.later h8
    have hb8 : Below w.heap.size w w8 := hb7.trans (h8.mono hb7.size)
    have kg := hkg w8 fp7 r7 hO8 hk7
    clear hN hnew hO7 hb7 kn kp hc7 hge hlt
    go_upto_region 20 with (go_at_call 15; refine kg.mono ?_; rintro e w9 ⟨rfl, h9⟩)
    have hb9 : Below w.heap.size w w9 := hb8.trans (h9.mono hb8.size)
    have kv := hkv w9 fp7 r7 (hO8.later h9) hu7 hm7
    clear kg hkg hkv hO8 hb8 h9 t0 t1 t2 t3 t4 t5 huk' huk
    go_wp2_with (first
      | (go_at_call 18; refine kv.mono ?_; rintro e w10 ⟨rfl, hO10, hK10⟩; have kd := hkd w10 fp7 r7 hO10 hk7; clear hkd)
      | (go_at_call 15; refine kd.mono ?_; rintro e w11 ⟨rfl, ⟨p11, q11, hI11⟩, hK11⟩; clear kd; have ke := gone_no w11 L fp7 p11 q11 [] [] hI11 nB nB_small 5 rfl (by decide))
      | (go_at_call 15; refine ke.mono ?_; rintro e w12 ⟨rfl, h12⟩; have kn2 := nodes_any w12 L fp7 p11 q11 [] [] (hI11.later h12) (by simp) (by simp))
      | (go_at_call 25; refine kn2.mono ?_; rintro e w13 ⟨g13, c13, l13, rfl, _, _, _, h13⟩))
    go_ret
    have hb10 := hb9.trans (hK10.below hb9.size hf7)
    have hb11 := hb10.trans (hK11.below hb10.size hf7)
    have hb12 := hb11.trans (h12.mono hb11.size)
    exact ⟨rfl, hb12.trans (h13.mono hb12.size)⟩

end Go.Proofs.Ytcmgpbdciifdmaa
