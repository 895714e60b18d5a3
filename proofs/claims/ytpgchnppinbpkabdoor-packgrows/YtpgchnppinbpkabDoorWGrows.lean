/- The walk of PackGrows. -/
import Derived.Test.YtpgchnppinbpkabDoorK8
namespace Go.Proofs.YtpgchnppinbpkabDoor
open Go.RowKit Go.Maps
set_option linter.unusedSimpArgs false

theorem wf_sm (g : Int) (h0 : 0 ≤ g) (h1 : g ≤ 100000) : (Lit.int .i64 g).wf = true := by
  have e1 : IntKind.i64.min = -9223372036854775808 := rfl
  have e2 : IntKind.i64.max = 9223372036854775807 := rfl
  simp only [Lit.wf, e1, e2, Bool.and_eq_true, decide_eq_true_eq]
  omega
theorem quo_of {n : Nat} {k c P : Int} (hk : 1 ≤ k) (hP : P = n * k) (h1 : P ≤ c) (h2 : c < P + k) (hc : c < 40) (h0 : 0 ≤ c) : wrap64 (c.tdiv k) = n ∧ wrap64 ((n : Int) * k) = P ∧ c.tdiv k = n ∧ c / k = n := by
  have e : c / k = n := by
    rw [hP] at h1 h2
    have h3 : (n : Int) ≤ c / k := (Int.le_ediv_iff_mul_le (by omega)).2 h1
    have h4 : c / k < (n : Int) + 1 := by
      rw [Int.ediv_lt_iff_lt_mul (by omega), Int.add_mul]
      omega
    omega
  have e2 : c.tdiv k = n := by rw [Int.tdiv_eq_ediv_of_nonneg h0, e]
  have hn : (n : Int) < 40 := by
    have : c / k ≤ c := Int.ediv_le_self _ h0
    omega
  have hP0 : 0 ≤ P := by rw [hP]; exact Int.mul_nonneg (by omega) (by omega)
  refine ⟨by rw [e2]; unfold wrap64; omega, by rw [← hP]; unfold wrap64; omega, e2, e⟩

/-- Between two rounds. -/
structure Gr (w : World) (L g n : Nat) (k c P : Int) (fp : Nat → Prop) (r : Rec) (G : List (Int × Grp)) (wr : World) : Prop where
  one : OneN wr L fp r G c 0
  u : gW (·.cpu) nB G = P
  v : gW (·.mem) nB G = 0
  q : gW (fun _ => 1) nB G = n
  new : ∀ x, (g : Int) ≤ x → look G x = none
  few : G.length ≤ g
  mul : P = n * k
  le : P ≤ c
  last : n + 1 = g ∨ c < P + k
  fw : ∀ b, fp b → w.heap.size ≤ b
  bel : Below w.heap.size w wr

set_option maxRecDepth 100000 in
set_option maxHeartbeats 4000000 in
theorem packGrows_walk (cpu need mode : Int) (w : World) (hT : Tab w) :
    Calls Tryd.prog 6 #[.int .i64 cpu, .int .i64 need, .int .i64 mode] w fun e w' => e = .returned (.bool true) ∧ Below w.heap.size w w' := by
  obtain ⟨c, hc⟩ : ∃ c, cpu % 40 = c := ⟨_, rfl⟩
  obtain ⟨k0, hk0⟩ : ∃ k, need % 9 = k := ⟨_, rfl⟩
  obtain ⟨m3, hm3⟩ : ∃ m, mode % 3 = m := ⟨_, rfl⟩
  have kc := fun W => within_any cpu 40 c (by decide) (by decide) hc W
  have kk := fun W => within_any need 9 k0 (by decide) (by decide) hk0 W
  have km := fun W => within_any mode 3 m3 (by decide) (by decide) hm3 W
  have c0 : 0 ≤ c := by omega
  have c1 : c < 40 := by omega
  have b0 : 0 ≤ k0 := by omega
  have b1 : k0 < 9 := by omega
  clear hc hk0 hm3
  go_enter Tryd.func6, Tryd.ntmps6
  go_wp2_with (first
    | (go_at_call 7; refine (known8_any w hT).mono ?_; rintro e w1 ⟨rfl, hb1⟩)
    | (go_at_call 16; refine (newL w1).mono ?_; rintro e w2 ⟨L, fp, rfl, hL2, hf2, hb2⟩; have kp := put_oneN w2 L fp [] hL2 c 0 (by omega) (by decide))
    | (go_at_call_of 13 (Value.int .i64 40); refine (kc _).mono ?_; rintro e w9 ⟨rfl, rfl⟩)
    | (go_at_call_of 13 (Value.int .i64 9); refine (kk _).mono ?_; rintro e w9 ⟨rfl, rfl⟩)
    | (go_at_call 17; refine kp.mono ?_; rintro e w4 ⟨rfl, fp4, r4, hO4, hT4⟩))
  have hbw2 := hb1.trans (hb2.mono hb1.size)
  have hfw2 : ∀ b, fp b → w.heap.size ≤ b := fun b hb => Nat.le_trans hb1.size (hf2 b hb)
  obtain ⟨k, hk⟩ : ∃ k, 1 + k0 = k := ⟨_, rfl⟩
  have k1 : 1 ≤ k := by omega
  have k9 : k ≤ 9 := by omega
  rw [hk]
  have hG0 : Gr w L 1 0 k c 0 fp4 r4 [] w4 := ⟨hO4, rfl, rfl, rfl, fun _ _ => rfl, by simp, by simp, c0, .inl rfl, hT4.low hfw2 hbw2.size, hT4.below hfw2 hbw2⟩
  clear kc kk kp hk b0 b1 hb1 hb2 hL2 hf2 hO4 hT4 hbw2 hfw2
  go_loopw [10, 11] (fun a i wr => ∃ (g n : Nat) (P : Int) (fp : Nat → Prop) (r : Rec) (G : List (Int × Grp)), 1 ≤ g ∧ g ≤ 46 ∧ n ≤ g ∧ i = .int .i64 g ∧ a = .int .i64 n ∧ Gr w L g n k c P fp r G wr) (fun _ i _ => 46 - (intOf i).toNat)
  case atStart => exact ⟨1, 0, 0, fp4, r4, [], by omega, by omega, by omega, rfl, rfl, hG0⟩
  case round =>
    clear hG0
    obtain ⟨g, n, P, fp, r, G, hg1, hg2, hng, rfl, rfl, hGr⟩ := hrel
    by_cases hlt : g ≤ 45
    · have hgi : (g : Int) ≤ 45 := by omega
      have hcellA := pods_one wr pB k 0 false (by omega)
      have hup := up (Below.refl _ _) (.cells #[.string pB, .int .i64 1, .int .i64 k, .int .i64 0, .slice none 0 0, .slice none 0 0, .bool false] 32) (w := wr)
      have hbel1 := hGr.bel.trans (hup.mono hGr.bel.size)
      obtain ⟨A, hA⟩ : ∃ A : Int, (if gW (·.cpu) nB G + k ≤ c ∧ gW (·.mem) nB G + 0 ≤ 0 then 0 else 6) = A := ⟨_, rfl⟩
      have kp := pack_oneN _ L fp r G c 0 (hGr.one.later hup) (hT.later hbel1) (by have := hGr.few; omega) g (wf_sm _ (by omega) (by omega)) (hGr.new g (by omega)) (some ⟨wr.heap.size, 0, none⟩) 1 pB k 0 hcellA (by omega) m3 A hA
      rw [hGr.u, hGr.v] at hA
      have HG : Hid (Gr w L g n k c P fp r G wr) := hGr
      clear hGr hcellA
      by_cases hfit : P + k ≤ c
      · rw [if_pos (by omega)] at hA
        subst hA
        go_wp2_with (first
          | (go_at_call 13; refine (km _).mono ?_; rintro e w9 ⟨rfl, rfl⟩)
          | (go_at_call 14; refine kp.mono ?_; rintro e w6 (⟨h0, _⟩ | ⟨_, a6, c6, fp6, r6, a7, c7, rfl, _, _, hO6, hT6⟩); (cases h0)))
        have hGr := HG.out
        have hgn := hGr.new g (by omega)
        have hmul := hGr.mul
        go_roundw
        case rel =>
          refine ⟨g + 1, n + 1, P + k, fp6, r6, _, by omega, by omega, by omega, by go_num, by go_num, ⟨hO6, ?_, ?_, ?_, ?_, ?_, ?_, hfit, ?_, hT6.low hGr.fw hbel1.size, hT6.below hGr.fw hbel1⟩⟩
          · rw [gW_put _ hgn, hGr.u]; simp [sW]; omega
          · rw [gW_put _ hgn, hGr.v]; simp [sW]
          · rw [gW_put _ hgn, hGr.q]; simp [sW]; omega
          · intro x hx
            rw [look_put, if_neg (by omega)]
            exact hGr.new x (by omega)
          · rw [length_put iK hGr.one.2.1.apG]
            have := hGr.few
            split <;> omega
          · rw [hmul]
            push_cast
            rw [Int.add_mul]; omega
          · rcases hGr.last with h | h
            · exact .inl (by omega)
            · omega
        case measure => simp [intOf]; omega
      · rw [if_neg (by omega)] at hA
        subst hA
        go_wp2_with (first
          | (go_at_call 13; refine (km _).mono ?_; rintro e w9 ⟨rfl, rfl⟩)
          | (go_at_call 14; refine kp.mono ?_; rintro e w6 (⟨_, rfl, hb6⟩ | ⟨h0, _⟩)))
        have hGr := HG.out
        go_roundw
        case rel => exact ⟨g + 1, n, P, fp, r, G, by omega, by omega, by omega, by go_num, rfl, ⟨hGr.one.later (hup.trans (hb6.mono hup.size)), hGr.u, hGr.v, hGr.q, fun x hx => hGr.new x (by omega), by have := hGr.few; omega, hGr.mul, hGr.le, .inr (by omega), hGr.fw, hbel1.trans (hb6.mono hbel1.size)⟩⟩
        case measure => simp [intOf]; omega
    · obtain rfl : g = 46 := by omega
      have hlast : c < P + k := by
        rcases hGr.last with h | h
        · exfalso
          have h1 := hGr.mul
          have h2 := hGr.le
          obtain rfl : n = 45 := by omega
          have : (45 : Int) * 1 ≤ 45 * k := by omega
          simp at h1
          omega
        · exact h
      obtain ⟨e1, e2, e3, e4⟩ := quo_of k1 hGr.mul hGr.le hlast c1 c0
      have ku := usedL wr L fp _ G hGr.one.2 nB nB_small
      rw [hGr.u, hGr.v, hGr.q] at ku
      have hbel := hGr.bel
      clear hGr hlast
      go_wp2_with (go_at_call 18; refine ku.mono ?_; rintro e w8 ⟨rfl, hb8⟩)
      go_ret
      exact ⟨by simp [e1, e2, e3, e4], up (hbel.trans (hb8.mono hbel.size)) _⟩

end Go.Proofs.YtpgchnppinbpkabDoor
