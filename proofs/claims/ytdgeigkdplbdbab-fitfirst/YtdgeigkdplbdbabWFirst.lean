/- The walk of FitFirst. -/
import Derived.Test.YtdgeigkdplbdbabK
import Derived.Test.YtdgeigkdplbdbabLN
namespace Go.Proofs.Ytdgeigkdplbdbab
open Go.RowKit Go.Maps

theorem seven (k : Int) (h0 : 0 ≤ k) (h : k < 7) : k = 0 ∨ k = 1 ∨ k = 2 ∨ k = 3 ∨ k = 4 ∨ k = 5 ∨ k = 6 := by omega

theorem strs_one {w : World} {x : Addr} {s : ByteArray} (h : w.cell? x = some (.string s)) : Strs w (some x) [s] :=
  ⟨by simp, fun i hi => by
    simp only [List.length_singleton] at hi
    obtain rfl : i = 0 := by omega
    exact ⟨x, rfl, by simpa [Addr.add] using h⟩⟩
theorem one_short {s : ByteArray} (h : s.size ≤ 1000) (i : Nat) : (([s] : List ByteArray).getD i ByteArray.empty).size ≤ maxLen := by
  cases i with
  | zero => simp only [List.getD_cons_zero]; unfold maxLen; omega
  | succ i => simp
theorem place_one {w : World} {B : Nat} {p : PlaceT} (h : PlaceAt w B 0 p) : Places w (some ⟨B, 0, none⟩) [p] :=
  ⟨by simp, fun i q hq => by
    obtain ⟨rfl, rfl⟩ : i = 0 ∧ p = q := by
      cases i with
      | zero => simpa using hq
      | succ i => simp at hq
    exact ⟨B, 0, rfl, h⟩⟩

theorem fin {w W w3 : World} (h3 : Below W.heap.size W w3) (h : Below w.heap.size w W) : Below w.heap.size w w3 := h.trans (h3.mono h.size)

set_option maxRecDepth 100000 in
set_option maxHeartbeats 8000000 in
theorem fitFirst_walk (n : Int) (w : World) :
    Calls Try.prog 3 #[.int .i64 n] w fun e w' => e = .returned (.bool true) ∧ Below w.heap.size w w' := by
  obtain ⟨k, hk⟩ : ∃ k, n % 7 = k := ⟨_, rfl⟩
  rcases seven k (by omega) (by omega) with rfl | rfl | rfl | rfl | rfl | rfl | rfl
  · go_enter Try.func3, Try.ntmps3
    go_wp2_with (first
      | (go_at_call 5; refine (known_on _ _ (Below.refl _ _)).mono ?_; rintro e w1 ⟨rfl, hb1⟩)
      | (go_at_call 6; refine (within5_any _ _ _ (by decide) (by decide) hk _).mono ?_; rintro e w2 ⟨rfl, rfl⟩)
      | (go_at_call 7
         refine (why_any _ _ _ _ _ _ _ _ _ _ _ _ _ _ _ _ _ _ _ _ _ _ _ _ _ _ [⟨#[98, 105, 103]⟩] [] [] [⟨#[119, 101, 115, 116]⟩] [⟨⟨#[113]⟩, ⟨#[110]⟩, 0, 0, true⟩] false false false _ rfl rfl rfl rfl rfl (strs_one (by simp [go_sem])) (strs_nil _) (strs_nil _) (strs_one (by simp [go_sem])) (place_one ⟨by simp [go_sem], by simp [go_sem], by simp [go_sem], by simp [go_sem], by simp [go_sem]⟩) (one_short (by decide)) nil_short nil_short (one_short (by decide)) (by decide) (by decide) (by decide +kernel) (by decide +kernel) (by decide)).mono ?_
         rintro e w3 ⟨rfl, hb3⟩))
    go_ret
    refine ⟨rfl, fin hb3 ?_⟩
    have hs1 := hb1.size
    repeat (first | with_reducible exact hb1 | with_reducible refine up ?_ _ | with_reducible refine Below.setCell ?_ (by simp; omega) _)
  · go_enter Try.func3, Try.ntmps3
    go_wp2_with (first
      | (go_at_call 5; refine (known_on _ _ (Below.refl _ _)).mono ?_; rintro e w1 ⟨rfl, hb1⟩)
      | (go_at_call 6; refine (within5_any _ _ _ (by decide) (by decide) hk _).mono ?_; rintro e w2 ⟨rfl, rfl⟩)
      | (go_at_call 7
         refine (why_any _ _ _ _ _ _ _ _ _ _ _ _ _ _ _ _ _ _ _ _ _ _ _ _ _ _ [⟨#[98, 105, 103]⟩] [] [] [⟨#[119, 101, 115, 116]⟩] [⟨⟨#[113]⟩, ⟨#[110]⟩, 0, 0, true⟩] false false false _ rfl rfl rfl rfl rfl (strs_one (by simp [go_sem])) (strs_nil _) (strs_nil _) (strs_one (by simp [go_sem])) (place_one ⟨by simp [go_sem], by simp [go_sem], by simp [go_sem], by simp [go_sem], by simp [go_sem]⟩) (one_short (by decide)) nil_short nil_short (one_short (by decide)) (by decide) (by decide) (by decide +kernel) (by decide +kernel) (by decide)).mono ?_
         rintro e w3 ⟨rfl, hb3⟩))
    go_ret
    refine ⟨rfl, fin hb3 ?_⟩
    have hs1 := hb1.size
    repeat (first | with_reducible exact hb1 | with_reducible refine up ?_ _ | with_reducible refine Below.setCell ?_ (by simp; omega) _)
  · go_enter Try.func3, Try.ntmps3
    go_wp2_with (first
      | (go_at_call 5; refine (known_on _ _ (Below.refl _ _)).mono ?_; rintro e w1 ⟨rfl, hb1⟩)
      | (go_at_call 6; refine (within5_any _ _ _ (by decide) (by decide) hk _).mono ?_; rintro e w2 ⟨rfl, rfl⟩)
      | (go_at_call 7
         refine (why_any _ _ _ _ _ _ _ _ _ _ _ _ _ _ _ _ _ _ _ _ _ _ _ _ _ _ [⟨#[98, 105, 103]⟩] [] [⟨#[98, 105, 103]⟩] [⟨#[119, 101, 115, 116]⟩] [⟨⟨#[113]⟩, ⟨#[110]⟩, 0, 0, true⟩] true false false _ rfl rfl rfl rfl rfl (strs_one (by simp [go_sem])) (strs_nil _) (strs_one (by simp [go_sem])) (strs_one (by simp [go_sem])) (place_one ⟨by simp [go_sem], by simp [go_sem], by simp [go_sem], by simp [go_sem], by simp [go_sem]⟩) (one_short (by decide)) nil_short (one_short (by decide)) (one_short (by decide)) (by decide) (by decide) (by decide +kernel) (by decide +kernel) (by decide)).mono ?_
         rintro e w3 ⟨rfl, hb3⟩))
    go_ret
    refine ⟨rfl, fin hb3 ?_⟩
    have hs1 := hb1.size
    repeat (first | with_reducible exact hb1 | with_reducible refine up ?_ _ | with_reducible refine Below.setCell ?_ (by simp; omega) _)
  · go_enter Try.func3, Try.ntmps3
    go_wp2_with (first
      | (go_at_call 5; refine (known_on _ _ (Below.refl _ _)).mono ?_; rintro e w1 ⟨rfl, hb1⟩)
      | (go_at_call 6; refine (within5_any _ _ _ (by decide) (by decide) hk _).mono ?_; rintro e w2 ⟨rfl, rfl⟩)
      | (go_at_call 7
         refine (why_any _ _ _ _ _ _ _ _ _ _ _ _ _ _ _ _ _ _ _ _ _ _ _ _ _ _ [⟨#[98, 105, 103]⟩] [⟨#[119, 101, 115, 116]⟩] [⟨#[98, 105, 103]⟩] [⟨#[119, 101, 115, 116]⟩] [⟨⟨#[113]⟩, ⟨#[110]⟩, 0, 0, true⟩] true true false _ rfl rfl rfl rfl rfl (strs_one (by simp [go_sem])) (strs_one (by simp [go_sem])) (strs_one (by simp [go_sem])) (strs_one (by simp [go_sem])) (place_one ⟨by simp [go_sem], by simp [go_sem], by simp [go_sem], by simp [go_sem], by simp [go_sem]⟩) (one_short (by decide)) (one_short (by decide)) (one_short (by decide)) (one_short (by decide)) (by decide) (by decide) (by decide +kernel) (by decide +kernel) (by decide)).mono ?_
         rintro e w3 ⟨rfl, hb3⟩))
    go_ret
    refine ⟨rfl, fin hb3 ?_⟩
    have hs1 := hb1.size
    repeat (first | with_reducible exact hb1 | with_reducible refine up ?_ _ | with_reducible refine Below.setCell ?_ (by simp; omega) _)
  · go_enter Try.func3, Try.ntmps3
    go_wp2_with (first
      | (go_at_call 5; refine (known_on _ _ (Below.refl _ _)).mono ?_; rintro e w1 ⟨rfl, hb1⟩)
      | (go_at_call 6; refine (within5_any _ _ _ (by decide) (by decide) hk _).mono ?_; rintro e w2 ⟨rfl, rfl⟩)
      | (go_at_call 7
         refine (why_any _ _ _ _ _ _ _ _ _ _ _ _ _ _ _ _ _ _ _ _ _ _ _ _ _ _ [⟨#[98, 105, 103]⟩] [⟨#[119, 101, 115, 116]⟩] [⟨#[98, 105, 103]⟩] [⟨#[119, 101, 115, 116]⟩] [⟨⟨#[113]⟩, ⟨#[110]⟩, 0, 0, true⟩] true true true _ rfl rfl rfl rfl rfl (strs_one (by simp [go_sem])) (strs_one (by simp [go_sem])) (strs_one (by simp [go_sem])) (strs_one (by simp [go_sem])) (place_one ⟨by simp [go_sem], by simp [go_sem], by simp [go_sem], by simp [go_sem], by simp [go_sem]⟩) (one_short (by decide)) (one_short (by decide)) (one_short (by decide)) (one_short (by decide)) (by decide) (by decide) (by decide +kernel) (by decide +kernel) (by decide)).mono ?_
         rintro e w3 ⟨rfl, hb3⟩))
    go_ret
    refine ⟨rfl, fin hb3 ?_⟩
    have hs1 := hb1.size
    repeat (first | with_reducible exact hb1 | with_reducible refine up ?_ _ | with_reducible refine Below.setCell ?_ (by simp; omega) _)
  · go_enter Try.func3, Try.ntmps3
    go_wp2_with (first
      | (go_at_call 5; refine (known_on _ _ (Below.refl _ _)).mono ?_; rintro e w1 ⟨rfl, hb1⟩)
      | (go_at_call 6; refine (within5_any _ _ _ (by decide) (by decide) hk _).mono ?_; rintro e w2 ⟨rfl, rfl⟩)
      | (go_at_call 7
         refine (why_any _ _ _ _ _ _ _ _ _ _ _ _ _ _ _ _ _ _ _ _ _ _ _ _ _ _ [⟨#[98, 105, 103]⟩] [⟨#[119, 101, 115, 116]⟩] [⟨#[98, 105, 103]⟩] [⟨#[119, 101, 115, 116]⟩] [⟨⟨#[113]⟩, ⟨#[110]⟩, 0, 0, true⟩] true true true _ rfl rfl rfl rfl rfl (strs_one (by simp [go_sem])) (strs_one (by simp [go_sem])) (strs_one (by simp [go_sem])) (strs_one (by simp [go_sem])) (place_one ⟨by simp [go_sem], by simp [go_sem], by simp [go_sem], by simp [go_sem], by simp [go_sem]⟩) (one_short (by decide)) (one_short (by decide)) (one_short (by decide)) (one_short (by decide)) (by decide) (by decide) (by decide +kernel) (by decide +kernel) (by decide)).mono ?_
         rintro e w3 ⟨rfl, hb3⟩))
    go_ret
    refine ⟨rfl, fin hb3 ?_⟩
    have hs1 := hb1.size
    repeat (first | with_reducible exact hb1 | with_reducible refine up ?_ _ | with_reducible refine Below.setCell ?_ (by simp; omega) _)
  · go_enter Try.func3, Try.ntmps3
    go_wp2_with (first
      | (go_at_call 5; refine (known_on _ _ (Below.refl _ _)).mono ?_; rintro e w1 ⟨rfl, hb1⟩)
      | (go_at_call 6; refine (within5_any _ _ _ (by decide) (by decide) hk _).mono ?_; rintro e w2 ⟨rfl, rfl⟩)
      | (go_at_call 7
         refine (why_any _ _ _ _ _ _ _ _ _ _ _ _ _ _ _ _ _ _ _ _ _ _ _ _ _ _ [⟨#[98, 105, 103]⟩] [⟨#[119, 101, 115, 116]⟩] [⟨#[98, 105, 103]⟩] [⟨#[119, 101, 115, 116]⟩] [⟨⟨#[113]⟩, ⟨#[110]⟩, 0, 0, false⟩] true true true _ rfl rfl rfl rfl rfl (strs_one (by simp [go_sem])) (strs_one (by simp [go_sem])) (strs_one (by simp [go_sem])) (strs_one (by simp [go_sem])) (place_one ⟨by simp [go_sem], by simp [go_sem], by simp [go_sem], by simp [go_sem], by simp [go_sem]⟩) (one_short (by decide)) (one_short (by decide)) (one_short (by decide)) (one_short (by decide)) (by decide) (by decide) (by decide +kernel) (by decide +kernel) (by decide)).mono ?_
         rintro e w3 ⟨rfl, hb3⟩))
    go_ret
    refine ⟨rfl, fin hb3 ?_⟩
    have hs1 := hb1.size
    repeat (first | with_reducible exact hb1 | with_reducible refine up ?_ _ | with_reducible refine Below.setCell ?_ (by simp; omega) _)

end Go.Proofs.Ytdgeigkdplbdbab
