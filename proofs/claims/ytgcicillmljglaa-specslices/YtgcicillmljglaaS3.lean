/- The contract of the chapter's own Set. -/
import Derived.Test.YtgcicillmljglaaRegs
import Derived.Test.YtgcicillmljglaaCr
import Derived.Deep.RegionHeld3
import Derived.Deep.DrawnRows
import Derived.StillTactics
import Derived.Laws.Pointers
namespace Go.Proofs.Ytgcicillmljglaa
open Go.RowKit Go.Maps
attribute [local go_sem ↓] Go.wp_at_zero Go.wp_at_succ

theorem held2 {F : Nat} {args : Array Value} {v : Value} {w0 W : World} {a b : Addr} {u t : Value} (h : Calls Try.prog F args W fun e w' => e = .returned v ∧ Below W.heap.size W w')
    (hc : W.cell? a = some u) (hd : W.cell? b = some t) (h0 : Below w0.heap.size w0 W) : Calls Try.prog F args W fun e w' => e = .returned v ∧ w'.cell? a = some u ∧ w'.cell? b = some t ∧ Below w0.heap.size w0 w' :=
  h.mono fun _ _ h => ⟨h.1, cell_below h.2 hc (block_lt hc), cell_below h.2 hd (block_lt hd), h0.trans (h.2.mono h0.size)⟩

set_option maxRecDepth 100000 in
set_option maxHeartbeats 4000000 in
theorem rSet_any (a : Option Addr) (cap : Nat) (ss : List ByteArray) (w : World) (hS : Strs w a ss) (hz : ∀ i, (ss.getD i ByteArray.empty).size ≤ maxLen) :
    Calls Try.prog 38 #[.slice a ss.length cap] w fun e w' => e = .returned (.bool (setB ss)) ∧ Below w.heap.size w w' := by
  have hl := hS.1
  by_cases h4 : (4 : Int) < ss.length
  · have e : setB ss = false := by unfold setB; have : decide (ss.length ≤ 4) = false := by simp; omega
                                   rw [this]; rfl
    rw [e]
    clear e
    go_enter Try.func38, Try.ntmps38
    go_wp2
    go_ret
    exact ⟨rfl, Below.refl _ _⟩
  · have e : setB ss = rises none ss := by unfold setB; have : decide (ss.length ≤ 4) = true := by simp; omega
                                           rw [this]; rfl
    obtain ⟨A, hA⟩ : ∃ A, setB ss = A := ⟨_, rfl⟩
    have hA0 : Hid (rises (ahead ss 0) (ss.drop 0) = A) := by show _ = _; rw [← hA, e]; rfl
    rw [hA]
    clear e hA
    go_enter Try.func38, Try.ntmps38
    go_wp2
    go_loopw [3] (fun i wr => ∃ k : Nat, k ≤ ss.length ∧ i = .int .i64 k ∧ Hid (rises (ahead ss k) (ss.drop k) = A) ∧ Below w.heap.size w wr) (fun i _ => ss.length - (intOf i).toNat)
    case atStart => exact ⟨0, Nat.zero_le _, rfl, hA0, Below.refl _ _⟩
    case round =>
      obtain ⟨k, hk, rfl, HS, hbw⟩ := hrel
      clear hA0
      have hSr := hS.later hbw
      by_cases hlt : k < ss.length
      · obtain ⟨x, rfl, hcs⟩ := hSr.2 k hlt
        have hzk := hz k
        obtain ⟨s, hs⟩ : ∃ s, ss.getD k ByteArray.empty = s := ⟨_, rfl⟩
        have hd := drop_at ss k hlt
        rw [hs] at hd hcs hzk
        have HN : ahead ss (k + 1) = some s := by rw [← hs]; rfl
        obtain ⟨b, hb⟩ : ∃ b, isName s = b := ⟨_, rfl⟩
        have n1 := fun W => rName_any s W hzk
        rw [hb] at n1
        have hbd : Below w.heap.size w wr.drew := Below.drew hbw
        cases b
        · have H2 : A = false := by
            rw [← HS.out, hd]
            cases k <;> simp [ahead, rises, hb]
          subst H2
          clear HS hd hb hS hSr hs hz
          go_wp2
          refine reg_bad _ _ _ x ss.length cap k s rfl rfl rfl hlt hcs n1 ?_
          intro w' hb'
          simp only [Act.put, List.setIfInBounds_toArray, List.set_cons_succ, List.set_cons_zero]
          go_wp2
          go_ret
          exact ⟨rfl, hbw.trans (hb'.mono hbw.size)⟩
        · rcases (by cases k with | zero => exact .inl rfl | succ m => exact .inr ⟨m, rfl⟩ : k = 0 ∨ ∃ m, k = m + 1) with rfl | ⟨m, rfl⟩
          · have H2 : Hid (A = rises (some s) (ss.drop 1)) := by
              show _ = _
              rw [← HS.out, hd]; simp [ahead, rises, hb]
            clear HS hd hb hS hSr hs hz
            go_wp2
            refine reg_first _ _ _ x ss.length cap 0 s rfl rfl rfl hlt hcs rfl n1 ?_
            intro w' hb'
            simp only [Act.put, List.setIfInBounds_toArray, List.set_cons_succ, List.set_cons_zero]
            go_wp2
            go_roundw
            case rel => exact ⟨1, hlt, rfl, (by show _ = _; rw [HN, H2.out]), hbw.trans (hb'.mono hbw.size)⟩
            case measure => simp [intOf]; omega
          · obtain ⟨x', hx', hcq⟩ := hSr.2 m (by omega)
            obtain rfl : x = x' := by simpa using hx'
            obtain ⟨q, hq⟩ : ∃ q, ss.getD m ByteArray.empty = q := ⟨_, rfl⟩
            rw [hq] at hcq
            obtain ⟨c, hc⟩ : ∃ c, Op.bytesLess q.toList s.toList = c := ⟨_, rfl⟩
            have H2 : Hid (A = (c && rises (some s) (ss.drop (m + 1 + 1)))) := by
              show _ = _
              rw [← HS.out, hd, ← hc, ← hq]
              show (isName s && _ && _) = _
              rw [hb, Bool.true_and]
            have hcd : wr.drew.cell? ⟨x.block, x.off + (m + 1), none⟩ = some (.string s) := by
              have : wr.cell? ⟨x.block, x.off + (m + 1), none⟩ = some (.string s) := by simpa [Addr.add] using hcs
              exact this
            have hcqd : wr.drew.cell? (x.add m) = some (.string q) := hcq
            have i0 : (0 : Int) ≤ (m : Int) + 1 := by omega
            have i1 : (m : Int) + 1 < ss.length := by omega
            have i2 : (0 : Int) ≤ (m : Int) := by omega
            have i3 : (m : Int) < ss.length := by omega
            have i4 : (0 : Int) < (m : Int) + 1 := by omega
            have i5 : IntKind.i64.wrap ((m : Int) + 1 - 1) = m := by rw [IntKind.wrap_i64]; omega
            have i6 : IntKind.i64.wrap (((m + 1 : Nat) : Int) - 1) = m := by rw [IntKind.wrap_i64]; omega
            have i7 : IntKind.i64.wrap (m : Int) = m := by rw [IntKind.wrap_i64]; omega
            clear HS hd hb hS hSr hs hq hx' hcs hz hcq
            cases c
            all_goals
              go_wp2
              go_region_held3 (fun w' => w'.cell? ⟨x.block, x.off + (m + 1), none⟩ = some (.string s) ∧ w'.cell? (x.add m) = some (.string q) ∧ Below w.heap.size w w') (exact ⟨by assumption, by assumption, by assumption⟩)
                (first
                  | (go_at_call 36; refine (held2 (n1 _) hcd hcqd (by assumption)).mono ?_; rintro e w8 ⟨rfl, hc8, hc9, hb8⟩))
              go_wp2
              first
              | (go_roundw
                 case rel => exact ⟨m + 1 + 1, hlt, by go_num, (by show _ = _; rw [HN, H2.out]; rfl), by assumption⟩
                 case measure => simp [intOf]; omega)
              | (go_ret
                 exact ⟨by rw [H2.out]; rfl, by assumption⟩)
      · have e1 : k = ss.length := by omega
        have e2 : A = true := by rw [← HS.out, e1, List.drop_length]; cases ss.length <;> rfl
        subst e2
        clear hS hSr
        go_wp2
        go_ret
        exact ⟨rfl, hbw⟩

end Go.Proofs.Ytgcicillmljglaa
