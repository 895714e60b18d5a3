/- The walk of FitAlone. -/
import Derived.Test.YtdgeigkdplbdbaaK
import Derived.Test.YtdgeigkdplbdbaaBS
namespace Go.Proofs.Ytdgeigkdplbdbaa
open Go.RowKit Go.Maps

set_option maxRecDepth 100000 in
set_option maxHeartbeats 4000000 in
theorem fitAlone_walk (a0 : Option Addr) (len0 cap0 : Nat) (z0 : List Int) (al : Bool) (w : World) (w0 : IsRow .i64 w a0 len0 cap0 z0) :
    Calls Try.prog 8 #[.slice a0 len0 cap0, .bool al] w fun e w' => e = .returned (.bool true) ∧ Below w.heap.size w w' := by
  replace w0 := w0.has
  obtain ⟨N, hN⟩ : ∃ N, min 4 len0 = N := ⟨_, rfl⟩
  obtain ⟨l, hl⟩ : ∃ l, besTo z0 N = l := ⟨_, rfl⟩
  have hlen : l.length = N := by rw [← hl, besTo_len]
  have kb := fun W (hB : Below w.heap.size w W) => beside_is a0 len0 cap0 z0 W (w0.later hB)
  rw [hN, hl] at kb
  have hN4 : N ≤ 4 := by omega
  clear hN hl w0
  obtain ⟨r, hr⟩ : ∃ r, whyN false true true (roomB 0 0 0 0 0 0) al l = r := ⟨_, rfl⟩
  have kw := fun g c W (hp : Places W g l) => why_bare ⟨#[112]⟩ ⟨#[110]⟩ 0 0 0 0 0 0 0 al false g N c l r W hlen hp (by decide) (by decide) hr
  go_enter Try.func8, Try.ntmps8
  go_wp2_with (first
    | (go_at_call 9; refine (known_on _ _ (Below.refl _ _)).mono ?_; rintro e w1 ⟨rfl, hb1⟩)
    | (go_at_call 15; refine (kb _ hb1).mono ?_; rintro e w2 ⟨g, c, rfl, hp, hg, hb2⟩
       have hW2 := hb1.trans (hb2.mono hb1.size)))
  have hr2 : whyN false true true true al l = r := hr
  clear hr kb
  have hW3 := up hW2 (.cells #[.string ⟨#[112]⟩, .int .i64 0, .int .i64 0, .int .i64 0, .slice none 0 0, .slice none 0 0, .bool al] 28)
  have hp3 := hp.later (up (Below.refl _ _) (.cells #[.string ⟨#[112]⟩, .int .i64 0, .int .i64 0, .int .i64 0, .slice none 0 0, .slice none 0 0, .bool al] 28))
  have kw3 := kw g c _ hp3
  clear kw hp
  go_loopw [7, 8] (fun q i wr => ∃ k : Nat, k ≤ l.length ∧ i = .int .i64 k ∧ q = .bool ((l.take k).any (·.al)) ∧ wr = w2.alloc (.cells #[.string ⟨#[112]⟩, .int .i64 0, .int .i64 0, .int .i64 0, .slice none 0 0, .slice none 0 0, .bool al] 28)) (fun _ i _ => l.length - (intOf i).toNat)
  case atStart => exact ⟨0, Nat.zero_le _, rfl, by simp, rfl⟩
  case round =>
    obtain ⟨k, hk, rfl, rfl, rfl⟩ := hrel
    by_cases hlt : k < l.length
    · obtain ⟨B, o, rfl, hat⟩ := hp3.2 k _ (List.getElem?_eq_getElem hlt)
      have hst := any_take hlt
      obtain ⟨p, hp⟩ : ∃ p, l[k] = p := ⟨_, rfl⟩
      rw [hp] at hat hst
      obtain ⟨pd, nd, cp, mm, b⟩ := p
      obtain ⟨d0, d1, d2, d3, d4⟩ := hat
      simp only at d0 d1 d2 d3 d4 hst
      obtain ⟨q, hq⟩ : ∃ q, (l.take k).any (·.al) = q := ⟨_, rfl⟩
      have HS : Hid ((l.take (k + 1)).any (·.al) = (q || b)) := by show _ = _; rw [hst, hq]
      have i1 : (k : Int) < N := by omega
      rw [hq]
      clear hst hq hp hr2 kw3 hp3
      cases q
      all_goals
        go_wp2
        go_roundw
        case rel => exact ⟨k + 1, hlt, by go_num, by rw [HS.out]; first | rfl | simp, by first | rfl | trivial⟩
        case measure => simp [intOf]; omega
    · have ek : k = l.length := by omega
      subst ek
      rw [List.take_length]
      obtain ⟨q, hq⟩ : ∃ q, l.any (·.al) = q := ⟨_, rfl⟩
      have i1 : ¬ ((l.length : Nat) : Int) < N := by omega
      have hr3 : r = if al && decide (0 < N) then 5 else if q then 6 else 0 := by rw [← hr2, ← hq, ← hlen]; rfl
      rw [hq]
      clear hr2 hq hp3
      by_cases hN0 : 0 < N
      · have i0 : (0 : Int) < N := by omega
        have dd : decide (0 < N) = true := by simp [hN0]
        rw [dd] at hr3
        cases al <;> cases q <;> (have hr4 := hr3; simp only [Bool.and_true, Bool.false_eq_true, if_true, if_false] at hr4; subst hr4; clear hr3)
        all_goals
          go_wp2_with (go_at_call 14; refine kw3.mono ?_; rintro e w4 ⟨rfl, hb4⟩)
          go_ret
          exact ⟨rfl, hW3.trans (hb4.mono hW3.size)⟩
      · have i0 : ¬ (0 : Int) < N := by omega
        have dd : decide (0 < N) = false := by simp [hN0]
        rw [dd] at hr3
        cases al <;> cases q <;> (have hr4 := hr3; simp only [Bool.and_false, Bool.false_eq_true, if_true, if_false] at hr4; subst hr4; clear hr3)
        all_goals
          go_wp2_with (go_at_call 14; refine kw3.mono ?_; rintro e w4 ⟨rfl, hb4⟩)
          go_ret
          exact ⟨rfl, hW3.trans (hb4.mono hW3.size)⟩

end Go.Proofs.Ytdgeigkdplbdbaa
