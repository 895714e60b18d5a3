/- The walk of ShardLease. -/
import Derived.Test.YthneemgpifbehaaGreatDoorMg40
namespace Go.Proofs.YthneemgpifbehaaGreatDoor
open Go.RowKit Go.Maps
set_option linter.unusedSimpArgs false
set_option linter.unusedVariables false

/-- The one place. -/
abbrev plL : Pl := ⟨pB, nB, 5, 0, false⟩
/-- So much is left of the lease. -/
def LS (L : Nat) (x : ShS) : Prop := x.me = 1 ∧ x.mode = 0 ∧ x.C = [nC 5 0] ∧ x.D = [] ∧ ((L = 0 ∧ x.U = [] ∧ x.G = []) ∨ (0 < L ∧ L ≤ 6 ∧ x.U = [(3, .held L)] ∧ ∃ a c, x.G = [(3, ⟨a, c, [plL]⟩)]))

theorem LS.state {L : Nat} {x : ShS} (h : LS L x) : stateS x 3 = if L = 0 then 0 else 1 := by
  obtain ⟨_, _, _, hD, ⟨rfl, hU, _⟩ | ⟨h1, _, hU, _⟩⟩ := h
  · unfold stateS; rw [hU, hD]; rfl
  · unfold stateS; rw [hU, if_neg (by omega)]; rfl
theorem LS.used {L : Nat} {x : ShS} (h : LS L x) : gW (·.cpu) nB x.G = if L = 0 then 0 else 5 := by
  obtain ⟨_, _, _, hD, ⟨rfl, _, hG⟩ | ⟨h1, _, _, a, c, hG⟩⟩ := h
  · rw [hG]; rfl
  · rw [hG, if_neg (by omega)]; simp [gW, sW]

set_option maxRecDepth 100000 in
set_option maxHeartbeats 4000000 in
theorem LS.hold {B : Nat} {w0 w : World} {S T : Nat} {l : List (Nat × Array Value × TypeId)} {x : ShS} {fp : Nat → Prop} {L P : Nat} (h : Site B w0 S T l x fp w) (hL : LS L x) (hP : Box w P #[.string pB, .int .i64 1, .int .i64 5, .int .i64 0, .slice none 0 0, .slice none 0 0, .bool false] 63) :
    Calls Tryz.prog 14 #[.pointer (some ⟨S, 0, none⟩), .agg #[.int .i64 1, .int .i64 0, .int .i64 1, .int .i64 3, .slice (some ⟨P, 0, none⟩) 1 1, .slice none 0 0, .bool false]] w fun e w' => ∃ R, e = .returned (.slice (some ⟨R, 0, none⟩) 1 1) ∧ Box w' R #[.int .i64 2, .int .i64 1, .int .i64 0, .int .i64 3, .slice none 0 0, .slice none 0 0, .bool true] 40 ∧ ∃ fp' x', Site B w0 S T l x' fp' w' ∧ LS 6 x' := by
  have e3 : ((3 : Nat) : Int) = 3 := rfl
  have hst := hL.state
  obtain ⟨h1, h2, h3, h4, h5⟩ := hL
  rcases h5 with ⟨rfl, hU, hG⟩ | ⟨h0, h6, hU, a, c, hG⟩
  · have kg := qget_hold_yes h.s h.base.t (by rw [hG]; simp) (by rw [hU]; simp) 0 1 h1 3 (by decide) (by decide) hst (by rw [hG]; rfl) (some ⟨P, 0, none⟩) 1 1 [podV pB 1 5 0] (pods_one hP (by decide)) rfl (by decide) (by decide) (by decide) none 0 0 false (gang_one 3 (by decide) (by decide) 5 0 (by decide) (by decide)) [plL] (lay_one h3 pB 5 0 (by rw [hG]; decide) (by decide))
    simp only [e3] at kg
    refine kg.mono ?_
    rintro e w' ⟨R, he, bR, _, fp', x', ⟨a, c, hx⟩, hs, _, hT⟩
    refine ⟨R, he, bR, fp', x', h.turn hs hT, ?_⟩
    rw [hx]
    exact ⟨h1, h2, h3, h4, .inr ⟨by decide, by decide, by simp only [setU, heldS, hU]; rfl, a, c, by simp only [setU, heldS, hG]; rfl⟩⟩
  · have kg := qget_hold_held h.s (by rw [hU]; simp) 0 1 h1 3 (by decide) (by decide) (by rw [e3, hst, if_neg (by omega)]) (some ⟨P, 0, none⟩) 1 1 none 0 0 false
    simp only [e3] at kg
    refine kg.mono ?_
    rintro e w' ⟨R, he, bR, _, fp', x', hx, hs, _, hT⟩
    refine ⟨R, he, bR, fp', x', h.turn hs hT, ?_⟩
    rw [hx]
    exact ⟨h1, h2, h3, h4, .inr ⟨by decide, by decide, by simp only [setU, hU]; rfl, a, c, by simp only [setU, hG]⟩⟩

theorem LS.tick {B : Nat} {w0 w : World} {S T : Nat} {l : List (Nat × Array Value × TypeId)} {x : ShS} {fp : Nat → Prop} {L : Nat} (h : Site B w0 S T l x fp w) (hL : LS L x) :
    Calls Tryz.prog 27 #[.pointer (some ⟨S, 0, none⟩)] w fun e w' => e = .returned (.slice none 0 0) ∧ ∃ fp' x', Site B w0 S T l x' fp' w' ∧ LS (L - 1) x' := by
  obtain ⟨h1, h2, h3, h4, h5⟩ := hL
  rcases h5 with ⟨rfl, hU, hG⟩ | ⟨h0, h6, hU, a, c, hG⟩
  · refine (qtick_nil h.s hU).mono ?_
    rintro e w' ⟨he, hs, hb⟩
    exact ⟨he, fp, x, h.later hb, h1, h2, h3, h4, .inl ⟨rfl, hU, hG⟩⟩
  · refine (qtick_held h.s (by rw [hG]; simp) 3 L (wfN 3 (by decide)) (by omega) (by omega) hU).mono ?_
    rintro e w' ⟨he, fp', hs, hT⟩
    refine ⟨he, fp', _, h.turn hs hT, ?_⟩
    by_cases e1 : (L : Int) = 1
    · rw [if_pos e1]
      have : L - 1 = 0 := by omega
      rw [this]
      exact ⟨h1, h2, h3, h4, .inl ⟨rfl, by simp only [lostS, hU]; rfl, by simp only [lostS, hG]; rfl⟩⟩
    · rw [if_neg e1]
      have e2 : (L : Int) - 1 = ((L - 1 : Nat) : Int) := by omega
      rw [e2]
      exact ⟨h1, h2, h3, h4, .inr ⟨by omega, by omega, by simp only [setU, hU]; rfl, a, c, by simp only [setU, hG]⟩⟩

set_option maxRecDepth 100000 in
set_option maxHeartbeats 16000000 in
theorem shardLease_walk (a0 : Option Addr) (len0 cap0 : Nat) (z0 : List Int) (n : Int) (w : World) (w0 : IsRow .i64 w a0 len0 cap0 z0) (hB : Base w.heap.size w) :
    Calls Tryz.prog 6 #[.slice a0 len0 cap0, .int .i64 n] w fun e w' => e = .returned (.bool true) ∧ Below w.heap.size w w' := by
  have hrow := w0.has
  clear w0
  have hlen0 := hrow.1
  obtain ⟨B, hB0⟩ : ∃ B, w.heap.size = B := ⟨_, rfl⟩
  have kk := known10_any w hB
  have hHB : Hid (w.heap.size = B) := hB0
  rw [hB0] at hB kk ⊢
  clear hB0
  go_enter Tryz.func6, Tryz.ntmps6
  go_upto_region 4 with (first
    | (go_at_call 9; refine kk.mono ?_; rintro e w1 ⟨rfl, hb1⟩)
    | (go_at_call 10; refine (open10_nil _ _).mono ?_; rintro e w2 ⟨W, rfl, hO⟩))
  obtain ⟨S, T, X, Y, fp, hs2⟩ := open_site (hB.on hb1) hb1 hO
  have kn := qnode_one w2 S T fp 1 0 B hs2.base hs2.s hs2.low 5 0 (by decide) (by decide) 5 0 rfl rfl
  have cW := hs2.head.cell (i := 0) (v := .pointer (some ⟨S, 0, none⟩)) rfl
  clear kk hO hb1
  go_upto_region 6 with (go_at_call 25; refine kn.mono ?_; rintro e w3 ⟨rfl, fp3, h3, hT3⟩)
  have hs3 := hs2.turn h3 hT3
  clear kn h3 hT3 hs2 cW
  have hsP := hs3.new #[.string pB, .int .i64 1, .int .i64 5, .int .i64 0, .slice none 0 0, .slice none 0 0, .bool false] 63
  have hsM := hsP.new #[.int .i64 1, .int .i64 0, .int .i64 1, .int .i64 3, .slice (some ⟨w3.heap.size, 0, none⟩) 1 1, .slice none 0 0, .bool false] 40
  have hLS : LS 0 (oneS 1 0 5 0) := ⟨rfl, rfl, rfl, rfl, .inl ⟨rfl, rfl, rfl⟩⟩
  go_upto_region 7 with fail
  have ez : (w3.alloc (.cells #[.string pB, .int .i64 1, .int .i64 5, .int .i64 0, .slice none 0 0, .slice none 0 0, .bool false] 63)).heap.size = w3.heap.size + 1 := by simp
  rw [ez] at hsM
  clear ez
  generalize w3.heap.size = P at *
  generalize (w3.alloc (.cells #[.string pB, .int .i64 1, .int .i64 5, .int .i64 0, .slice none 0 0, .slice none 0 0, .bool false] 63)).alloc (.cells #[.int .i64 1, .int .i64 0, .int .i64 1, .int .i64 3, .slice (some ⟨P, 0, none⟩) 1 1, .slice none 0 0, .bool false] 40) = w4 at *
  clear hsP hs3
  go_wp2
  go_loopw [7, 8] (fun v7 v8 wr => ∃ (L i : Nat) (fp : Nat → Prop) (x : ShS), v7 = .int .i64 L ∧ v8 = .int .i64 i ∧ i ≤ 30 ∧ LS L x ∧ Site B w S T [(P + 1, #[.int .i64 1, .int .i64 0, .int .i64 1, .int .i64 3, .slice (some ⟨P, 0, none⟩) 1 1, .slice none 0 0, .bool false], 40), (P, #[.string pB, .int .i64 1, .int .i64 5, .int .i64 0, .slice none 0 0, .slice none 0 0, .bool false], 63), (W, #[.pointer (some ⟨S, 0, none⟩), .pointer (some ⟨T, 0, none⟩), .pointer (some ⟨X, 0, none⟩), .pointer (some ⟨Y, 0, none⟩), .int .i64 0], 33)] x fp wr) (fun _ v8 _ => 30 - (intOf v8).toNat)
  case atStart => exact ⟨0, 0, fp3, _, rfl, rfl, by decide, hLS, hsM⟩
  case round =>
    obtain ⟨L, i, fp, x, rfl, rfl, hi30, hL, hs⟩ := hrel
    clear hsM hLS
    by_cases hi : i < 30
    · go_upto_region 11 with fail
      go_cut [57] (fun v57 wx => ∃ b, v57 = .bool b ∧ wx = wr)
      case first =>
        obtain ⟨k3, hk3⟩ : ∃ k, n % 3 = k := ⟨_, rfl⟩
        have et : (i : Int).tmod 3 = (i : Int) % 3 := Int.tmod_eq_emod_of_nonneg (by omega)
        obtain ⟨q3, hq3⟩ : ∃ q, ((i : Int) % 3 == k3) = q := ⟨_, rfl⟩
        have hq3' : ((i : Int).tmod 3 == k3) = q3 := by rw [et]; exact hq3
        have hx : ∀ hl : i < len0, ∃ y z, a0 = some y ∧ wr.cell? (y.add i) = some (.int .i64 z) := fun hl => by
          obtain ⟨y, z, e, hc⟩ := hrow.at hs.below (by rw [hHB.out]; exact Nat.le_refl _) i hl
          exact ⟨y, z, e, hc⟩
        clear hL hs et
        rcases Nat.eq_zero_or_pos L with rfl | hpos
        · cases q3
          · by_cases hl : i < len0
            · obtain ⟨y, z, rfl, hc⟩ := hx hl
              obtain ⟨k4, hk4⟩ : ∃ k, z % 4 = k := ⟨_, rfl⟩
              by_cases h4 : k4 = 0
              all_goals
                go_wp2_with (go_at_call 11; refine (within_any _ _ _ (by decide) (by decide) (by assumption) _).mono ?_; rintro e wq ⟨rfl, rfl⟩)
                go_meet
                case rel => exact ⟨_, rfl, rfl⟩
            · go_wp2_with (go_at_call 11; refine (within_any _ _ _ (by decide) (by decide) (by assumption) _).mono ?_; rintro e wq ⟨rfl, rfl⟩)
              go_meet
              case rel => exact ⟨_, rfl, rfl⟩
          · go_wp2_with (go_at_call 11; refine (within_any _ _ _ (by decide) (by decide) (by assumption) _).mono ?_; rintro e wq ⟨rfl, rfl⟩)
            go_meet
            case rel => exact ⟨_, rfl, rfl⟩
        · have e0 : ((L : Int) == 0) = false := by simp; omega
          by_cases hl : i < len0
          · obtain ⟨y, z, rfl, hc⟩ := hx hl
            obtain ⟨k4, hk4⟩ : ∃ k, z % 4 = k := ⟨_, rfl⟩
            by_cases h4 : k4 = 0
            all_goals
              go_wp2_with (go_at_call 11; refine (within_any _ _ _ (by decide) (by decide) (by assumption) _).mono ?_; rintro e wq ⟨rfl, rfl⟩)
              go_meet
              case rel => exact ⟨_, rfl, rfl⟩
          · go_wp2
            go_meet
            case rel => exact ⟨_, rfl, rfl⟩
      case rest =>
        obtain ⟨b, rfl, rfl⟩ := hcut
        go_upto_if 57 with fail
        go_cut [7] (fun v7 wx => ∃ (L' : Nat) (fp' : Nat → Prop) (x' : ShS), v7 = .int .i64 L' ∧ LS L' x' ∧ Site B w S T [(P + 1, #[.int .i64 1, .int .i64 0, .int .i64 1, .int .i64 3, .slice (some ⟨P, 0, none⟩) 1 1, .slice none 0 0, .bool false], 40), (P, #[.string pB, .int .i64 1, .int .i64 5, .int .i64 0, .slice none 0 0, .slice none 0 0, .bool false], 63), (W, #[.pointer (some ⟨S, 0, none⟩), .pointer (some ⟨T, 0, none⟩), .pointer (some ⟨X, 0, none⟩), .pointer (some ⟨Y, 0, none⟩), .int .i64 0], 33)] x' fp' wx)
        case first =>
          cases b
          · go_wp2
            go_meet
            case rel => exact ⟨L, fp, x, rfl, hL, hs⟩
          · obtain ⟨m0, m1, m2, m3, m4, m5, m6⟩ := hs.head.cells7
            have cW := hs.tail.tail.head.cell (i := 0) (v := .pointer (some ⟨S, 0, none⟩)) rfl
            have hd := hs.later (Below.drew (Below.refl _ _))
            have kg := LS.hold hd hL hd.tail.head
            clear hs hL hd
            go_upto_region 12 with fail
            go_region_with (go_at_call 14; refine kg.mono ?_; rintro e w5 ⟨R, rfl, bR, fp5, x5, hs5, hL5⟩; obtain ⟨r0, r1, r2, r3, r4, r5, r6⟩ := bR.cells7)
            all_goals
              go_wp2
              go_meet
              case rel => exact ⟨6, fp5, x5, rfl, hL5, hs5⟩
        case rest =>
          clear hL hs
          obtain ⟨L, fp, x, rfl, hL, hs⟩ := hcut
          have ks := qstate_any hs.s 3 (wfN 3 (by decide))
          have ku := qused_any hs.s nB (by decide)
          rw [hL.state] at ks
          rw [hL.used] at ku
          obtain ⟨gm, hgm⟩ : ∃ m, gW (·.mem) nB x.G = m := ⟨_, rfl⟩
          obtain ⟨gk, hgk⟩ : ∃ m, gW (fun _ => 1) nB x.G = m := ⟨_, rfl⟩
          rw [hgm, hgk] at ku
          clear hgm hgk
          have cW := fun W' (hW' : Below wc.heap.size wc W') => ((hs.later hW').tail.tail.head).cell (i := 0) (v := .pointer (some ⟨S, 0, none⟩)) rfl
          have cW0 := cW _ (Below.refl _ _)
          have hb0 := hs.below
          rcases Nat.eq_zero_or_pos L with rfl | hpos
          · simp only [if_true] at ks ku
            go_upto_region 21 with (first
              | (go_at_call 16; refine ks.mono ?_; rintro e w6 ⟨rfl, rfl⟩)
              | (go_at_call 26; refine ku.mono ?_; rintro e w6 ⟨rfl, hb6⟩; have c6 := cW _ (up hb6 (.cells #[.int .i64 0, .int .i64 gm] 52)); have kt := LS.tick ((hs.later hb6).new #[.int .i64 0, .int .i64 gm] 52) hL)
              | (go_at_call 27; refine kt.mono ?_; rintro e w7 ⟨rfl, fp7, x7, hs7, hL7⟩))
            clear cW ks ku kt hL hs
            go_wp2
            all_goals
              go_roundw
              case rel => exact ⟨0, i + 1, fp7, x7, by first | rfl | (congr 1; omega), by go_num, by omega, hL7, hs7.tail⟩
              case measure => simp [intOf]; omega
          · have hL0 : ¬ L = 0 := by omega
            have hLi : (0 : Int) < L := by omega
            simp only [if_neg hL0] at ks ku
            have hL6 : L ≤ 6 := by
              obtain ⟨_, _, _, _, ⟨e, _⟩ | ⟨_, e, _⟩⟩ := hL
              · omega
              · exact e
            go_upto_region 21 with (first
              | (go_at_call 16; refine ks.mono ?_; rintro e w6 ⟨rfl, rfl⟩)
              | (go_at_call 26; refine ku.mono ?_; rintro e w6 ⟨rfl, hb6⟩; have c6 := cW _ (up hb6 (.cells #[.int .i64 5, .int .i64 gm] 52)); have kt := LS.tick ((hs.later hb6).new #[.int .i64 5, .int .i64 gm] 52) hL)
              | (go_at_call 27; refine kt.mono ?_; rintro e w7 ⟨rfl, fp7, x7, hs7, hL7⟩))
            clear cW ks ku kt hL hs
            go_wp2
            all_goals
              go_roundw
              case rel => exact ⟨L - 1, i + 1, fp7, x7, by first | rfl | (congr 1; omega), by go_num, by omega, hL7, hs7.tail⟩
              case measure => simp [intOf]; omega
    · have : i = 30 := by omega
      subst this
      go_wp2
      go_ret
      exact ⟨rfl, hs.below⟩

end Go.Proofs.YthneemgpifbehaaGreatDoor
