/- The walk of LedgerAnew. -/
import Derived.Test.YtcmgpbdciifdmabRM
import Derived.Deep.QuietTactic
namespace Go.Proofs.Ytcmgpbdciifdmab
open Go.RowKit Go.Maps

theorem node_z (cpu mem : Int) (hc : 0 ≤ cpu ∧ cpu ≤ 1099511627776) (hm : 0 ≤ mem ∧ mem ≤ 1099511627776) : nodeE nB cpu mem [⟨#[122]⟩] [] = 0 := by
  have e1 : isName nB = true := by decide +kernel
  have e2 : sizeB cpu mem = true := by unfold sizeB; simp; omega
  have e3 : setB [⟨#[122]⟩] = true := by decide +kernel
  have e4 : setB [] = true := rfl
  unfold nodeE askE
  rw [e1, e2, e3, e4]; rfl

set_option maxRecDepth 100000 in
set_option maxHeartbeats 8000000 in
theorem ledgerAnew_walk (cpu more : Int) (cl : Bool) (w : World) : Calls Try.prog 6 #[.int .i64 cpu, .int .i64 more, .bool cl] w fun e w' => e = .returned (.bool true) ∧ Below w.heap.size w w' := by
  have he := eqVec
  obtain ⟨c, hc⟩ : ∃ c, cpu % 50 = c := ⟨_, rfl⟩
  have hc0 : 0 ≤ c ∧ c < 50 := by omega
  obtain ⟨d, hd⟩ : ∃ d, more % 9 = d := ⟨_, rfl⟩
  have hd0 : 0 ≤ d ∧ d < 9 := by omega
  have kc := fun W => within_any cpu 50 c (by decide) (by decide) hc W
  have kd := fun W => within_any more 9 d (by decide) (by decide) hd W
  clear hc hd
  go_enter Try.func6, Try.ntmps6
  go_upto_region 5 with (first
    | (go_at_call 7; refine (known_any w).mono ?_; rintro e w1 ⟨rfl, hb1⟩; have kr := room_any c 5 (by omega) (by decide) w1)
    | (go_at_call 8; refine (kc _).mono ?_; rintro e w2 ⟨rfl, rfl⟩)
    | (go_at_call 9; refine kr.mono ?_; rintro e w3 ⟨L, fp, r, rfl, hO3, hc3, hu3, hm3, hk3, hf3, hb3⟩))
  have hcp : r.cpu = c := congrArg (fun x => x.2.1) hc3
  have hcm : r.mem = 5 := congrArg (fun x => x.2.2.1) hc3
  have hbw : Below w.heap.size w w3 := hb1.trans (hb3.mono hb1.size)
  have hfw : ∀ b, fp b → w.heap.size ≤ b := fun b hb => Nat.le_trans hb1.size (hf3 b hb)
  have hO4 := hO3.later (up (Below.refl _ _) (.cells #[.string ⟨#[97]⟩, .string nB, .int .i64 c, .int .i64 0, .bool false] 32))
  have hb4 := up hbw (.cells #[.string ⟨#[97]⟩, .string nB, .int .i64 c, .int .i64 0, .bool false] 32)
  have k3 := take_ok _ L fp r [] hO4 1 (by decide) rfl (by simp) w3.heap.size 0 1 ⟨⟨#[97]⟩, nB, c, 0, false⟩ (pls_lit w3 _) hO3.outs rfl ⟨hc0.1, Int.le_refl 0⟩ (by rw [hu3, hm3, hcp, hcm]; simp)
  go_upto_region 7 with (go_at_call 10; refine k3.mono ?_; rintro e w5 ⟨rfl, fp5, a5, c5, hO5, hf5, hK5⟩)
  have hb5 : Below w.heap.size w w5 := hb4.trans (hK5.below hb4.size hfw)
  have hf5' : ∀ b, fp5 b → w.heap.size ≤ b := fun b hb => (hf5 b hb).elim (hfw b) (fun h => Nat.le_trans hb4.size h)
  have e1 : (r.plus ⟨⟨#[97]⟩, nB, c, 0, false⟩).u = c := by show r.u + c = c; rw [hu3]; omega
  have e2 : (r.plus ⟨⟨#[97]⟩, nB, c, 0, false⟩).m = 0 := by show r.m + 0 = 0; rw [hm3]; rfl
  have e3 : (r.plus ⟨⟨#[97]⟩, nB, c, 0, false⟩).k = 1 := by show wrap64 (r.k + 1) = 1; rw [hk3]; unfold wrap64; omega
  generalize r.plus ⟨⟨#[97]⟩, nB, c, 0, false⟩ = r5 at hO5 e1 e2 e3
  clear k3 hO3 hO4 hc3 hu3 hm3 hk3 hcp hcm hbw hb4 hf5 hK5 hf3 hb3 hb1 kr hfw kc
  have hw : wrap64 (c + d) = c + d := by unfold wrap64; omega
  go_upto_region 8 with (go_at_call 8; refine (kd _).mono ?_; rintro e w5 ⟨rfl, rfl⟩)
  have hs7 : Strs ((w5.alloc (.cells #[.string ⟨#[122]⟩] 9)).alloc (.cells #[.string nB, .int .i64 (c + d), .int .i64 0, .slice (some ⟨w5.heap.size, 0, none⟩) 1 1, .slice none 0 0, .bool cl] 45)) (some ⟨w5.heap.size, 0, none⟩) [⟨#[122]⟩] := by
    refine ⟨by simp, fun i hi => ⟨_, rfl, ?_⟩⟩
    obtain rfl : i = 0 := by simpa using hi
    exact ((Box.new w5 #[.string ⟨#[122]⟩] 9 rfl).up _).cell rfl
  have hbu : Below w5.heap.size w5 ((w5.alloc (.cells #[.string ⟨#[122]⟩] 9)).alloc (.cells #[.string nB, .int .i64 (c + d), .int .i64 0, .slice (some ⟨w5.heap.size, 0, none⟩) 1 1, .slice none 0 0, .bool cl] 45)) := up (up (Below.refl _ _) _) _
  have hB7 : Box ((w5.alloc (.cells #[.string ⟨#[122]⟩] 9)).alloc (.cells #[.string nB, .int .i64 (c + d), .int .i64 0, .slice (some ⟨w5.heap.size, 0, none⟩) 1 1, .slice none 0 0, .bool cl] 45)) (w5.heap.size + 1) #[.string nB, .int .i64 (c + d), .int .i64 0, .slice (some ⟨w5.heap.size, 0, none⟩) 1 1, .slice none 0 0, .bool cl] 45 := Box.new _ _ _ (by simp)
  have hO7 := hO5.later hbu
  have hb7 := hb5.trans (hbu.mono hb5.size)
  have nB5 : ¬ fp5 w5.heap.size := hO5.outs
  have nB6 : ¬ fp5 (w5.heap.size + 1) := fun h => by have := hO5.lt _ h; omega
  generalize ((w5.alloc (.cells #[.string ⟨#[122]⟩] 9)).alloc (.cells #[.string nB, .int .i64 (c + d), .int .i64 0, .slice (some ⟨w5.heap.size, 0, none⟩) 1 1, .slice none 0 0, .bool cl] 45)) = W7 at hs7 hbu hB7 hO7 hb7 ⊢
  have kp := put_again W7 L fp5 r5 _ hO7 (c + d) 0 (some ⟨w5.heap.size, 0, none⟩) 1 1 cl [⟨#[122]⟩] hs7 rfl (SP.some _ _) (by intro x hx _; cases hx; exact nB5) (node_z _ _ (by omega) (by decide)) (by rw [e1, e2]; omega) (by omega)
  obtain ⟨y0, y1, y2, y3, y4, y5⟩ := hB7.cells6
  clear hs7 hbu hO5 hb5 kd
  go_upto_region 9 with (go_at_call 15; refine kp.mono ?_; rintro e w8 ⟨rfl, fp8, r8, hO8, hc8, hu8, hm8, hk8, hf8, hK8⟩)
  have hB8 := hK8.box hB7 nB6
  have hb8 : Below w.heap.size w w8 := hb7.trans (hK8.below hb7.size hf5')
  have ku := used_one w8 L fp8 r8 _ hO8
  rw [hu8, hm8, hk8, e1, e2, e3] at ku
  have kn := fun W (hW : Below w8.heap.size w8 W) => nodes_one W L fp8 r8 _ (hO8.later hW)
  clear kp hO7 hb7 hB7 y0 y1 y2 y3 y4 y5 hK8 hf8 hf5' e1 e2 e3 hu8 hm8 hk8 nB5 nB6 hO8
  go_upto_region 11 with (first
    | (go_at_call 12; refine ku.mono ?_; rintro e w9 ⟨rfl, h9⟩; have h9u := up h9 (.cells #[.int .i64 c, .int .i64 0] 30))
    | (go_at_call 16; refine (kn _ h9u).mono ?_; rintro e w10 ⟨g, cg, r', rfl, hN, hcore, hcg, h10⟩))
  have hV := (Box.new w9 #[.int .i64 c, .int .i64 0] 30 rfl).later h10
  have hB10 := ((hB8.later h9).up (.cells #[.int .i64 c, .int .i64 0] 30)).later h10
  have hb10 : Below w.heap.size w w10 := hb8.trans ((h9u.trans (h10.mono h9u.size)).mono hb8.size)
  obtain ⟨B', hB', hge, hlt, hat, hnew⟩ := hN 0 r' rfl
  cases hB'
  rw [hc8] at hcore
  obtain ⟨nm', cpu', mem', a1', c1', xs', a2', c2', ys', cl', u', m', k'⟩ := r'
  simp only [Rec.core, Prod.mk.injEq] at hcore
  obtain ⟨rfl, rfl, rfl, rfl, rfl, rfl⟩ := hcore
  obtain ⟨t0, t1, t2, t3, t4, t5⟩ := hat
  simp only [Nat.zero_mul, Nat.zero_add, List.length_cons, List.length_nil] at t0 t1 t2 t3 t4 t5
  obtain ⟨v0, v1⟩ := hV.cells2
  obtain ⟨x0, x1, x2, x3, x4, x5⟩ := hB10.cells6
  clear hV hB10 hN hnew hB8 h9 h9u h10 ku kn hb8
  go_quiet (fail)
  go_wp2
  go_ret
  exact ⟨by simp, below_drewN hb10 _⟩

end Go.Proofs.Ytcmgpbdciifdmab
