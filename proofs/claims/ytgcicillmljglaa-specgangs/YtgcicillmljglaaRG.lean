/- The contract of the document's own Gang. -/
import Derived.Test.YtgcicillmljglaaRP
import Derived.Test.YtgcicillmljglaaH
namespace Go.Proofs.Ytgcicillmljglaa
open Go.RowKit Go.Maps
set_option linter.unusedSimpArgs false
set_option linter.unusedVariables false

theorem rpod_is (s : ByteArray) (shard cpu mem : Int) (a1 a2 : Option Addr) (n1 n2 c1 c2 : Nat) (al : Bool) (xs ys : List ByteArray) (S e0 : Int) (w0 w : World) (hb : Below w0.heap.size w0 w) (h1 : Strs w a1 xs) (h2 : Strs w a2 ys) (e1 : xs.length = n1) (e2 : ys.length = n2) (hs : s.size ≤ maxLen) (z1 : ∀ s ∈ xs, s.size ≤ 1000) (z2 : ∀ s ∈ ys, s.size ≤ 1000) (he : podE s shard cpu mem xs ys S = e0) :
    Calls Try.prog 14 #[.agg #[.string s, .int .i64 shard, .int .i64 cpu, .int .i64 mem, .slice a1 n1 c1, .slice a2 n2 c2, .bool al], .int .i64 S] w fun e w' =>
      e = .returned (.int .i64 e0) ∧ Below w0.heap.size w0 w' ∧ Below w.heap.size w w' := by
  subst he
  exact (rPod_any s shard cpu mem a1 a2 n1 n2 c1 c2 al xs ys S w h1 h2 e1 e2 hs z1 z2).mono fun _ _ h => ⟨h.1, hb.trans (h.2.mono hb.size), h.2⟩

set_option maxRecDepth 100000 in
set_option maxHeartbeats 4000000 in
theorem rGang_any (id S : Int) (a : Option Addr) (c n : Nat) (l : List PodT) (w : World) (hl : l.length = n) (hnc : n ≤ c) (hP : Pods w a l) (hz : ∀ p ∈ l, p.name.size ≤ maxLen ∧ (∀ s ∈ p.ps, s.size ≤ 1000) ∧ ∀ s ∈ p.bs, s.size ≤ 1000) :
    Calls Try.prog 24 #[.agg #[.int .i64 id, .slice a n c], .int .i64 S] w fun e w' => e = .returned (.int .i64 (gangE id l S)) ∧ Below w.heap.size w w' := by
  have hn := hP.1
  rw [hl] at hn
  obtain ⟨A, hA⟩ : ∃ A, gangE id l S = A := ⟨_, rfl⟩
  rw [hA]
  unfold gangE at hA
  rw [hl] at hA
  by_cases i1 : id < 1
  · rw [if_pos (.inl i1)] at hA
    subst hA
    go_enter Try.func24, Try.ntmps24
    go_wp2
    go_ret
    exact ⟨rfl, up (Below.refl _ _) _⟩
  by_cases i2 : 999999 < id
  · rw [if_pos (.inr i2)] at hA
    subst hA
    go_enter Try.func24, Try.ntmps24
    go_wp2
    go_ret
    exact ⟨rfl, up (Below.refl _ _) _⟩
  rw [if_neg (by omega)] at hA
  by_cases i3 : (n : Int) < 1
  · rw [if_pos (by omega)] at hA
    subst hA
    go_enter Try.func24, Try.ntmps24
    go_wp2
    go_ret
    exact ⟨rfl, up (Below.refl _ _) _⟩
  by_cases i4 : (8 : Int) < n
  · rw [if_pos (by omega)] at hA
    subst hA
    go_enter Try.func24, Try.ntmps24
    go_wp2
    go_ret
    exact ⟨rfl, up (Below.refl _ _) _⟩
  rw [if_neg (by omega)] at hA
  obtain ⟨t, ht⟩ : ∃ t, twB [] l = t := ⟨_, rfl⟩
  rw [ht] at hA
  have HA : Hid ((if firstE S (l.drop 0) = 0 then (if t then 4 else 0) else firstE S (l.drop 0)) = A) := hA
  have HT : Hid (twB (l.take 0) (l.drop 0) = t) := by show _ = _; simpa using ht
  clear hA ht
  go_enter Try.func24, Try.ntmps24
  go_wp2
  go_loopw [5] (fun i wr => ∃ k : Nat, k ≤ n ∧ i = .int .i64 k ∧ Hid ((if firstE S (l.drop k) = 0 then (if t then 4 else 0) else firstE S (l.drop k)) = A) ∧ Below w.heap.size w wr ∧ GBox wr w.heap.size id (.slice a n c)) (fun i _ => n - (intOf i).toNat)
  case atStart => exact ⟨0, Nat.zero_le _, rfl, HA, up (Below.refl _ _) _, GBox.new _ _ _⟩
  case round =>
    obtain ⟨k, hk, rfl, HS, hbw, hG⟩ := hrel
    clear HA
    have hPr := hP.later hbw
    have hcg := hG.cell1
    have hcg0 := hG.cell0
    by_cases hlt : k < n
    · obtain ⟨B, o, rfl, hat, hok⟩ := hPr.2 k _ (List.getElem?_eq_getElem (by omega))
      have hd := pods_drop l k (by omega)
      have hzz := hz l[k] (List.getElem_mem _)
      obtain ⟨p, hp⟩ : ∃ p, l[k] = p := ⟨_, rfl⟩
      rw [hp] at hat hok hd hzz
      obtain ⟨s, shard, cpu, mem, pa, pc, ps, ba, bc, bs, al⟩ := p
      obtain ⟨d0, d1, d2, d3, d4, d5, d6⟩ := hat
      obtain ⟨g1, g2⟩ := hok
      simp only at d0 d1 d2 d3 d4 d5 d6 g1 g2 hzz
      obtain ⟨e0, he0⟩ : ∃ e0, podE s shard cpu mem ps bs S = e0 := ⟨_, rfl⟩
      have H2 : Hid ((if (if e0 = 0 then firstE S (l.drop (k + 1)) else e0) = 0 then (if t then 4 else 0) else (if e0 = 0 then firstE S (l.drop (k + 1)) else e0)) = A) := by
        show _ = _
        rw [← HS.out, hd, ← he0]; rfl
      have kp := rpod_is s shard cpu mem pa ba ps.length bs.length pc bc al ps bs S e0 w wr hbw g1 g2 rfl rfl hzz.1 hzz.2.1 hzz.2.2 he0
      clear HS hd hp hP hPr g1 g2 he0 HT hz hzz
      obtain ⟨n1, hn1⟩ : ∃ n1, ps.length = n1 := ⟨_, rfl⟩
      obtain ⟨n2, hn2⟩ : ∃ n2, bs.length = n2 := ⟨_, rfl⟩
      rw [hn1] at d4 kp
      rw [hn2] at d5 kp
      clear hn1 hn2
      by_cases h0 : e0 = 0
      · subst h0
        simp only [if_true] at H2
        go_wp2_with (go_at_call 14; refine kp.mono ?_; rintro e w3 ⟨rfl, hb3, hb4⟩)
        go_roundw
        case rel => exact ⟨k + 1, hlt, by go_num, H2, hb3, hG.later hb4⟩
        case measure => simp [intOf]; omega
      · simp only [h0, if_false] at H2
        have e1 : e0 = A := H2
        have hne : (e0 != 0) = true := by simp [h0]
        subst e1
        go_wp2_with (go_at_call 14; refine kp.mono ?_; rintro e w3 ⟨rfl, hb3, hb4⟩)
        go_ret
        exact ⟨rfl, hb3⟩
    · obtain rfl : n = k := by omega
      have e2 : Hid ((if t then 4 else 0) = A) := by show _ = _; rw [← HS.out, List.drop_of_length_le (by omega)]; rfl
      clear HS
      have HP : Hid (Pods w a l) := hP
      clear hP hPr hz
      go_wp2
      go_loopw [7] (fun i wr => ∃ k : Nat, k ≤ n ∧ i = .int .i64 k ∧ Hid (twB (l.take k) (l.drop k) = t) ∧ Below w.heap.size w wr ∧ GBox wr w.heap.size id (.slice a n c)) (fun i _ => n - (intOf i).toNat)
      case atStart => exact ⟨0, Nat.zero_le _, rfl, HT, hbw, hG⟩
      case round =>
        have hP := HP.out
        clear hbw hG hcg hcg0 HP
        obtain ⟨k, hk, rfl, HS, hbw, hG⟩ := hrel
        clear HT
        have hPr := hP.later hbw
        have hcg := hG.cell1
        by_cases hlt : k < n
        · obtain ⟨B, o, rfl, hat, hok⟩ := hPr.2 k _ (List.getElem?_eq_getElem (by omega))
          have hd := pods_drop l k (by omega)
          have ht := pods_take l k (by omega)
          obtain ⟨p, hp⟩ : ∃ p, l[k] = p := ⟨_, rfl⟩
          rw [hp] at hat hok hd ht
          obtain ⟨s, shard, cpu, mem, pa, pc, ps, ba, bc, bs, al⟩ := p
          obtain ⟨d0, d1, d2, d3, d4, d5, d6⟩ := hat
          simp only at d0 d1 d2 d3 d4 d5 d6
          have H2 : Hid (t = (inN s ((l.take k).drop 0) || twB (l.take (k + 1)) (l.drop (k + 1)))) := by
            show _ = _
            rw [← HS.out, hd, ht]; rfl
          have hkl : (l.take k).length = k := by simp; omega
          have dB := block_lt d0
          clear HS hd ht hok hp
          go_wp2
          go_loopw [8] (fun i wi => ∃ m : Nat, m ≤ k ∧ i = .int .i64 m ∧ Hid (t = (inN s ((l.take k).drop m) || twB (l.take (k + 1)) (l.drop (k + 1)))) ∧ Below wr.heap.size wr wi) (fun i _ => k - (intOf i).toNat)
          case atStart => exact ⟨0, Nat.zero_le _, rfl, H2, Below.refl _ _⟩
          case round =>
            obtain ⟨m, hm, rfl, HS2, hbi⟩ := hrel
            have hG2 := hG.later hbi
            have hcg2 := hG2.cell1
            have y0 := cell_below hbi d0 dB
            clear H2 d0 d1 d2 d3 d4 d5 d6
            have hPi := hPr.later hbi
            by_cases hlm : m < k
            · obtain ⟨B', o', hx, hat, hok⟩ := hPi.2 m _ (List.getElem?_eq_getElem (by omega))
              obtain ⟨rfl, rfl⟩ : B = B' ∧ o = o' := by simpa using hx
              have hd : (l.take k).drop m = l[m] :: (l.take k).drop (m + 1) := by
                rw [List.drop_eq_getElem_cons (by omega)]; simp
              obtain ⟨p, hp⟩ : ∃ p, l[m] = p := ⟨_, rfl⟩
              rw [hp] at hat hok hd
              obtain ⟨u, shard', cpu', mem', pa', pc', ps', ba', bc', bs', al'⟩ := p
              obtain ⟨d0, d1, d2, d3, d4, d5, d6⟩ := hat
              simp only at d0 d1 d2 d3 d4 d5 d6
              obtain ⟨b, hb⟩ : ∃ b, (s.toList == u.toList) = b := ⟨_, rfl⟩
              have H3 : Hid (t = (b || inN s ((l.take k).drop (m + 1)) || twB (l.take (k + 1)) (l.drop (k + 1)))) := by
                show _ = _
                rw [HS2.out, hd, ← hb]; rfl
              clear HS2 hd hok hp hx hP hPr hPi d1 d2 d3 d4 d5 d6
              have hkn : (k : Int) < n := by omega
              have hmn : (m : Int) < n := by omega
              have hmk : (m : Int) < k := by omega
              have hbo := hbw.trans (hbi.mono hbw.size)
              cases b
              · go_wp2
                go_quiet (fail)
                go_wp2
                go_roundw
                case rel => exact ⟨m + 1, hlm, by go_num, (by show _ = _; rw [H3.out]; first | done | rfl | simp), below_drewN hbi _⟩
                case measure => simp [intOf]; omega
              · have hA : A = 4 := by rw [← e2.out, H3.out]; rfl
                subst hA
                go_wp2
                go_quiet (fail)
                go_wp2
                go_ret
                exact ⟨rfl, below_drewN hbo _⟩
            · have e1' : m = k := by omega
              have e2' : Hid (twB (l.take (k + 1)) (l.drop (k + 1)) = t) := by
                show _ = _
                have e3 : (l.take k).drop k = [] := List.drop_of_length_le (by omega)
                rw [HS2.out, e1', e3]; rfl
              have hbo := hbw.trans (hbi.mono hbw.size)
              clear HS2 hP hPr hPi y0
              go_wp2
              go_roundw
              case rel => exact ⟨k + 1, hlt, by go_num, e2', hbo, hG2⟩
              case measure => simp [intOf]; omega
        · have e1' : k = n := by omega
          have e3 : t = false := by rw [← HS.out, e1', List.drop_of_length_le (by omega)]; cases l.take n <;> rfl
          have hA : A = 0 := by rw [← e2.out, e3]; rfl
          subst hA
          clear hP hPr HS
          go_wp2
          go_ret
          exact ⟨rfl, hbw⟩

end Go.Proofs.Ytgcicillmljglaa
