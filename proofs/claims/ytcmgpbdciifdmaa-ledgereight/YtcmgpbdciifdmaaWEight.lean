/- The walk of LedgerEight. -/
import Derived.Test.YtcmgpbdciifdmaaST
import Derived.Deep.RegionHeld3
import Derived.Deep.DrawnRows
import Derived.Deep.QuietTactic
import Derived.Deep.CutBlock
import Derived.Deep.DeepCutAuto
namespace Go.Proofs.Ytcmgpbdciifdmaa
open Go.RowKit Go.Maps
attribute [local go_sem ↓] Go.wp_at_zero Go.wp_at_succ

theorem grow_b {w0 W w1 : World} {row : Option Nat} (h : Below w0.heap.size w0 W) (hg : W.grownBy w1 row) (hrow : ∀ j, row = some j → w0.heap.size ≤ j) : Below w0.heap.size w0 w1 := h.grown hg h.size hrow
theorem alloc_b {w0 W : World} (h : Below w0.heap.size w0 W) (o : Obj) : Below w0.heap.size w0 (W.alloc o) := h.alloc h.size o
theorem node_nm {w : World} {base g : Nat} {l : List Rec} {E : List (ByteArray × Rec)} {N : List ByteArray} (hNd : Nds w base (some ⟨g, 0, none⟩) l) (hl : l.map Rec.core = E.map (fun e => e.2.core)) (hok : ∀ e ∈ E, e.2.nm = e.1) (hN : E.map (·.1) = N) (j : Nat) (hj : j < N.length) : w.cell? ⟨g, j * 6, none⟩ = some (.string (N.getD j ByteArray.empty)) := by
  subst hN
  have hjE : j < E.length := by simpa using hj
  have hll : l.length = E.length := by simpa using congrArg List.length hl
  have hjl : j < l.length := by omega
  obtain ⟨B, hB, _, _, hat, _⟩ := hNd j l[j] (List.getElem?_eq_getElem hjl)
  cases hB
  have e1 : l[j].core = E[j].2.core := by
    have := congrArg (fun x => x[j]?) hl
    simpa [List.getElem?_eq_getElem hjl, List.getElem?_eq_getElem hjE] using this
  have e2 : l[j].nm = E[j].1 := (congrArg (fun x => x.1) e1).trans (hok _ (List.getElem_mem hjE))
  rw [hat.1, e2]
  simp [List.getD, List.getElem?_eq_getElem hjE]

set_option maxRecDepth 100000 in
set_option maxHeartbeats 4000000 in
theorem ledgerEight_walk (a0 : Option Addr) (len0 cap0 : Nat) (z0 : List Int) (w : World) (w0 : IsRow .i64 w a0 len0 cap0 z0) :
    Calls Try.prog 8 #[.slice a0 len0 cap0] w fun e w' => e = .returned (.bool true) ∧ Below w.heap.size w w' := by
  have hrow := w0.has
  clear w0
  go_enter Try.func8, Try.ntmps8
  go_wp2_with (first
    | (go_at_call 9; refine (known_any w).mono ?_; rintro e w1 ⟨rfl, hb1⟩; have kr := new_any w1)
    | (go_at_call 10; refine kr.mono ?_; rintro e w2 ⟨L, fp, rfl, hI2, hf2, hb2⟩))
  have hE2 : ES w L fp none none [] w2 := ⟨hI2, by simp, (fun e he => by cases he), (fun b hb => Nat.le_trans hb1.size (hf2 b hb)), hb1.trans (hb2.mono hb1.size)⟩
  clear kr hb1 hI2 hf2 hb2
  go_loopw [4, 5] (fun v i wr => ∃ (k : Nat) (fp : Nat → Prop) (p q : Option Nat) (E : List (ByteArray × Rec)) (a : Option Addr) (c : Nat), k ≤ 30 ∧ i = .int .i64 k ∧ v = .slice a E.length c ∧ ES w L fp p q E wr ∧ Strs wr a (E.map (·.1)) ∧ (a = none → c = 0) ∧ E.length ≤ c ∧ (∀ x, a = some x → ¬ fp x.block ∧ x.block < wr.heap.size)) (fun _ i _ => 30 - (intOf i).toNat)
  case atStart => exact ⟨0, fp, none, none, [], none, 0, by omega, rfl, rfl, hE2, ⟨by simp, fun i hi => by simp at hi⟩, fun _ => rfl, by simp, fun x hx => by cases hx⟩
  case round =>
    clear hE2
    obtain ⟨k, fp, p, q, E, a, c, hk, rfl, rfl, hE, hS, hac, hlc, hna⟩ := hrel
    by_cases hlt : k < len0 ∧ k < 30
    · obtain ⟨x, z, rfl, hz⟩ := hrow.at hE.bel (Nat.le_refl _) k hlt.1
      obtain ⟨d, hd⟩ : ∃ d : Nat, z % 12 = d := ⟨(z % 12).toNat, by omega⟩
      have hd0 : d < 12 := by omega
      have hd1 : (d : Int) < 12 := by omega
      have kd := fun W => within_any z 12 d (by decide) (by decide) hd W
      have h1 : k < len0 := hlt.1
      have h2 : (k : Int) < 30 := by omega
      clear hd hrow
      have hconv := conv_byte wr d (by omega)
      obtain ⟨t, ht⟩ : ∃ t : ByteArray, (⟨#[UInt8.ofNat (97 + d)]⟩ : ByteArray) = t := ⟨_, rfl⟩
      rw [ht] at hconv
      obtain ⟨s, hs⟩ : ∃ s : ByteArray, (⟨#[110]⟩ : ByteArray) ++ t = s := ⟨_, rfl⟩
      have ht1 : t.size = 1 := by rw [← ht]; rfl
      have hsd : Hid (sN d = s) := by
        show _ = _
        rw [← hs, ← ht]
        rfl
      clear ht
      go_upto_block 2 with (go_at_call 11; refine (kd _).mono ?_; rintro e wr ⟨rfl, rfl⟩)
      have hEu := hE.later (up (Below.refl _ _) (.cells #[.int .u8 (97 + (d : Int))] 5))
      have hSu := hS.later (up (Below.refl _ _) (.cells #[.int .u8 (97 + (d : Int))] 5))
      have hnu : ∀ x, a = some x → ¬ fp x.block ∧ x.block < (wr.alloc (.cells #[.int .u8 (97 + (d : Int))] 5)).heap.size := fun x hx => ⟨(hna x hx).1, Nat.lt_of_lt_of_le (hna x hx).2 (by simp)⟩
      clear hconv hE hS hz kd hs ht1 hna
      generalize wr.alloc (.cells #[.int .u8 (97 + (d : Int))] 5) = W at hEu hSu hnu ⊢
      obtain ⟨N, hN⟩ : ∃ N, E.map (·.1) = N := ⟨_, rfl⟩
      have hNl : E.length = N.length := by rw [← hN]; simp
      rw [hN] at hSu
      rw [hNl] at hlc ⊢
      have hN8 : N.length ≤ 8 := by rw [← hNl]; exact hEu.eight
      have hR : Rises N := by rw [← hN]; exact hEu.led.nodes.rises
      go_cut [8, 9] (fun u v wx => u = .int .i64 (atN s N) ∧ v = .bool (inB N s) ∧ wx = W)
      case first =>
        go_wp2
        go_loopw [8, 9] (fun u v wx => ∃ t : Nat, t ≤ atN s N ∧ u = .int .i64 t ∧ v = .bool (inB (N.take t) s) ∧ wx = W) (fun u _ _ => N.length - (intOf u).toNat)
        case atStart => exact ⟨0, Nat.zero_le _, rfl, rfl, rfl⟩
        case round =>
          obtain ⟨t, ht, rfl, rfl, rfl⟩ := hrel
          by_cases hl : t < N.length
          · obtain ⟨x', rfl, hq⟩ := hSu.2 t hl
            have hw6 : wrap64 ((t : Int) + 1) = (t : Int) + 1 := by unfold wrap64; omega
            obtain ⟨y, hy⟩ : ∃ y, N.getD t ByteArray.empty = y := ⟨_, rfl⟩
            have hm := has_more (s := s) hl
            have hle := leq_sb y s
            obtain ⟨b0, hb0⟩ : ∃ b0, inB (N.take t) s = b0 := ⟨_, rfl⟩
            rw [hb0] at hm ⊢
            rw [hy] at hq hm
            cases hb : sb s y with
            | false =>
              rw [hb] at hle
              simp only [Bool.not_false] at hle
              have ha1 := at_no ht hl (by rw [hy]; exact hb)
              have HM : Hid (inB (N.take (t + 1)) s = (b0 || (y.toList == s.toList))) := hm
              clear hm hy hb ht hb0
              cases b0 with
              | false =>
                go_wp2
                go_roundw
                case rel => exact ⟨t + 1, ha1, by simp, by rw [HM.out]; simp, by trivial⟩
                case measure => simp [intOf]; omega
              | true =>
                go_wp2
                go_roundw
                case rel => exact ⟨t + 1, ha1, by simp, by rw [HM.out]; simp, by trivial⟩
                case measure => simp [intOf]; omega
            | true =>
              rw [hb] at hle
              simp only [Bool.not_true] at hle
              have ha1 := at_yes ht hl (by rw [hy]; exact hb)
              have HM : Hid (inB N s = b0) := by
                show _ = _
                rw [← has_all hR, ha1]; exact hb0
              clear hm hy hb ht hb0
              go_wp2
              go_meet
              case rel => exact ⟨by rw [ha1], by rw [HM.out], rfl⟩
          · have ha1 : atN s N = t := by have := atN_le s N; omega
            have hb1 := has_all hR (s := s)
            rw [ha1] at hb1
            have hge : N.length ≤ t := by omega
            go_wp2
            go_meet
            case rel => exact ⟨by rw [ha1], by rw [hb1], rfl⟩
      case rest =>
        obtain ⟨rfl, rfl, rfl⟩ := hcut
        have hlk : look E (sN d) = none ↔ inB N s = false := by rw [hsd.out, look_has, hN]
        have kp := fun A hA => hEu.put d hd0 k (by omega) A hA
        rw [hN, hNl, hsd.out] at kp
        rw [hsd.out] at hlk
        have hat := atN_le s N
        cases hh : inB N s with
        | true =>
          rw [hh] at hlk
          have hne : ¬ look E s = none := by rw [hlk]; simp
          have kp := kp 0 (by rw [if_neg (fun h => hne h.1)])
          rw [if_neg (fun h => hne h.1)] at kp
          go_upto_region 23 with (go_at_call 13; refine kp.mono ?_; rintro e W3 ⟨rfl, fp', p', q', E', hE3, hN3, hf', hK'⟩)
          have hS3 : Strs W3 a N := hSu.frame fun x hx _ => hK'.block x.block (hnu x hx).2 (hnu x hx).1
          have hna3 : ∀ x, a = some x → ¬ fp' x.block ∧ x.block < W3.heap.size := fun x hx => ⟨fun hb => (hf' _ hb).elim (hnu x hx).1 (fun hh => by have := (hnu x hx).2; omega), Nat.lt_of_lt_of_le (hnu x hx).2 hK'.size⟩
          clear kp hnu hK' hf' hEu hSu hlk hne hh hat
          have hn3 : E'.length = N.length := by rw [← hN3]; simp
          have kn := nodes_any W3 L fp' p' q' E' [] hE3.led (by have := hE3.eight; omega) (fun e he => (hE3.ok e he).2.2.2)
          have ok3 : ∀ e ∈ E', e.2.nm = e.1 := fun e he => (hE3.ok e he).2.2.1
          rw [hn3] at kn
          have H3 : Hid (E'.map (·.1) = N ∧ E'.length = N.length) := ⟨hN3, hn3⟩
          have H4 : Hid (∀ x, a = some x → ¬ fp' x.block ∧ x.block < W3.heap.size) := hna3
          have H5 : Hid (N.length ≤ 8) := by show _ ≤ _; rw [← hn3]; exact hE3.eight
          clear hn3 hN3 hna3
          go_wp2_with (go_at_call 25; refine kn.mono ?_; rintro e w6 ⟨g, cg, l, rfl, hNd, hl, hcg, h6⟩)
          have hE6 := hE3.later h6
          have hS6 := hS3.later h6
          have hnm := node_nm hNd hl ok3 H3.out.1
          clear kn hNd hl hcg hE3 hS3
          go_loopw [12] (fun i wx => ∃ j : Nat, j ≤ N.length ∧ i = .int .i64 j ∧ Below w6.heap.size w6 wx) (fun i _ => N.length - (intOf i).toNat)
          case atStart => exact ⟨0, Nat.zero_le _, rfl, Below.refl _ _⟩
          case round =>
            obtain ⟨j, hj, rfl, hbj⟩ := hrel
            have hN9 := H5.out
            by_cases hjl : j < N.length
            · obtain ⟨x3, rfl, hq⟩ := (hS6.later hbj).2 j hjl
              have hn := hnm j hjl
              have hn := cell_below hbj hn (block_lt hn)
              obtain ⟨y, hy⟩ : ∃ y, N.getD j ByteArray.empty = y := ⟨_, rfl⟩
              rw [hy] at hn hq
              clear hy hnm
              go_upto_region 29 with fail
              go_quiet (fail)
              go_wp2
              go_roundw
              case rel => exact ⟨j + 1, hjl, by go_num, below_drewN hbj _⟩
              case measure => simp [intOf]; omega
            · have hge : N.length ≤ j := by omega
              clear hnm
              go_wp2
              go_roundw
              case rel =>
                have hE7 := hE6.later hbj
                refine ⟨k + 1, fp', p', q', E', a, c, by omega, by go_num, by rw [H3.out.2], hE7, ?_, hac, by rw [H3.out.2]; exact hlc, fun x hx => ⟨(H4.out x hx).1, Nat.lt_of_lt_of_le (H4.out x hx).2 (Nat.le_trans h6.size hbj.size)⟩⟩
                rw [H3.out.1]
                exact hS6.later hbj
              case measure => simp [intOf]; omega
        | false =>
          rw [hh] at hlk
          have hno : look E s = none := hlk.2 rfl
          by_cases h8 : 8 ≤ N.length
          · have kp := kp 3 (by rw [if_pos ⟨hno, h8⟩])
            rw [if_neg (fun h => by have := h.2; omega)] at kp
            have h8i : (8 : Int) ≤ N.length := by omega
            go_upto_region 23 with (go_at_call 13; refine kp.mono ?_; rintro e W3 ⟨rfl, fp', p', q', E', hE3, hN3, hf', hK'⟩)
            have hS3 : Strs W3 a N := hSu.frame fun x hx _ => hK'.block x.block (hnu x hx).2 (hnu x hx).1
            have hna3 : ∀ x, a = some x → ¬ fp' x.block ∧ x.block < W3.heap.size := fun x hx => ⟨fun hb => (hf' _ hb).elim (hnu x hx).1 (fun hh => by have := (hnu x hx).2; omega), Nat.lt_of_lt_of_le (hnu x hx).2 hK'.size⟩
            clear kp hnu hK' hf' hEu hSu hlk hno hh hat
            have hn3 : E'.length = N.length := by rw [← hN3]; simp
            have kn := nodes_any W3 L fp' p' q' E' [] hE3.led (by have := hE3.eight; omega) (fun e he => (hE3.ok e he).2.2.2)
            have ok3 : ∀ e ∈ E', e.2.nm = e.1 := fun e he => (hE3.ok e he).2.2.1
            rw [hn3] at kn
            have H3 : Hid (E'.map (·.1) = N ∧ E'.length = N.length) := ⟨hN3, hn3⟩
            have H4 : Hid (∀ x, a = some x → ¬ fp' x.block ∧ x.block < W3.heap.size) := hna3
            have H5 : Hid (N.length ≤ 8) := by show _ ≤ _; rw [← hn3]; exact hE3.eight
            clear hn3 hN3 hna3
            go_wp2_with (go_at_call 25; refine kn.mono ?_; rintro e w6 ⟨g, cg, l, rfl, hNd, hl, hcg, h6⟩)
            have hE6 := hE3.later h6
            have hS6 := hS3.later h6
            have hnm := node_nm hNd hl ok3 H3.out.1
            clear kn hNd hl hcg hE3 hS3
            go_loopw [12] (fun i wx => ∃ j : Nat, j ≤ N.length ∧ i = .int .i64 j ∧ Below w6.heap.size w6 wx) (fun i _ => N.length - (intOf i).toNat)
            case atStart => exact ⟨0, Nat.zero_le _, rfl, Below.refl _ _⟩
            case round =>
              obtain ⟨j, hj, rfl, hbj⟩ := hrel
              have hN9 := H5.out
              by_cases hjl : j < N.length
              · obtain ⟨x3, rfl, hq⟩ := (hS6.later hbj).2 j hjl
                have hn := hnm j hjl
                have hn := cell_below hbj hn (block_lt hn)
                obtain ⟨y, hy⟩ : ∃ y, N.getD j ByteArray.empty = y := ⟨_, rfl⟩
                rw [hy] at hn hq
                clear hy hnm
                go_upto_region 29 with fail
                go_quiet (fail)
                go_wp2
                go_roundw
                case rel => exact ⟨j + 1, hjl, by go_num, below_drewN hbj _⟩
                case measure => simp [intOf]; omega
              · have hge : N.length ≤ j := by omega
                clear hnm
                go_wp2
                go_roundw
                case rel =>
                  have hE7 := hE6.later hbj
                  refine ⟨k + 1, fp', p', q', E', a, c, by omega, by go_num, by rw [H3.out.2], hE7, ?_, hac, by rw [H3.out.2]; exact hlc, fun x hx => ⟨(H4.out x hx).1, Nat.lt_of_lt_of_le (H4.out x hx).2 (Nat.le_trans h6.size hbj.size)⟩⟩
                  rw [H3.out.1]
                  exact hS6.later hbj
                case measure => simp [intOf]; omega
          · have kp := kp 0 (by rw [if_neg (fun h => h8 h.2)])
            rw [if_pos ⟨hno, by omega⟩] at kp
            have h8i : (N.length : Int) < 8 := by omega
            obtain ⟨m, hm⟩ : ∃ m, atN s N = m := ⟨_, rfl⟩
            rw [hm] at kp hat ⊢
            go_upto_region 22 with (go_at_call 13; refine kp.mono ?_; rintro e w5 ⟨rfl, fp', p', q', E', hE5, hN5, hf', hK'⟩)
            have hS5 : Strs w5 a N := hSu.frame fun x hx _ => hK'.block x.block (hnu x hx).2 (hnu x hx).1
            have e1 : (m : Int) ≤ c := by omega
            have e2 : (m : Int) ≤ N.length := by omega
            have lt : (N.take m).length = m := by rw [List.length_take]; omega
            have ld : (N.drop m).length = N.length - m := by rw [List.length_drop]
            have hda : (if c = m then a else a.map (fun x => x.add m)) = none → c - m = 0 := by
              intro h
              split at h
              · omega
              · have := hac (by simpa using h)
                omega
            have hA0 : Below w5.heap.size w5 w5.drew := (Below.refl _ _).drew
            clear kp hnu hK' hf' hEu hSu hlk hno hh
            go_region_held3 (fun w' => Below w5.heap.size w5 w') (first | assumption | (exact alloc_b (by assumption) _))
              (first
                | (refine step_append (by rfl) _ _ (by rfl) w5.heap.size _ 0 [] (by rfl) (own_zero (by first | exact hz1 _ _ | exact hz2 _ _ _ | exact hz3 _ _ _) (by omega)) a m c (N.take m) (by rfl) ((hS5.later (by assumption : Below w5.heap.size w5 _)).take m) lt hac (by simp) (by assumption : Below w5.heap.size w5 _).size ?_
                   intro v1 w1 hown1 hgrow1 hr1
                   have g1 := grow_b (by assumption) hgrow1 hr1
                   replace hown1 : w1.ownsRow w5.heap.size 9 1 v1 m ((N.take m).map Value.string) := by simpa using hown1)
                | (refine step_append (by rfl) _ _ (by rfl) w5.heap.size v1 m (N.take m) (by rfl) (by first | exact hown1 | exact hown1.alloc _) (some ⟨_, 0, none⟩) 1 1 [s] (by rfl) (strs_one (by first | exact cz1 _ _ | exact hgrow1.cell (cz2 _ _ _) (by simp [Value.ownBlock]) | exact hgrow1.cell (cz3 _ _ _) (by simp [Value.ownBlock]))) rfl (fun h => by cases h) (by omega) (by assumption : Below w5.heap.size w5 _).size ?_
                   intro v2 w2 hown2 hgrow2 hr2
                   have g2 := grow_b (by assumption) hgrow2 hr2)
                | (refine step_append (by rfl) _ _ (by rfl) w5.heap.size v2 (m + 1) (N.take m ++ [s]) (by rfl) hown2 (if c = m then a else a.map (fun x => x.add m)) (N.length - m) (c - m) (N.drop m) (by rfl) ((hS5.later g2).drop m c hlc) ld hda (by simp; omega) g2.size ?_
                   intro v3 W3 hown3 hgrow3 hr3
                   have g3 := grow_b (by assumption) hgrow3 hr3)
                | fail)
            all_goals
              obtain ⟨N3, hNN⟩ : ∃ N3, N.take m ++ s :: N.drop m = N3 := ⟨_, rfl⟩
              have e3 : N3.length = m + 1 + (N.length - m) := by rw [← hNN]; simp; omega
              have hown : W3.ownsRow w5.heap.size 9 1 v3 N3.length (N3.map Value.string) := by
                rw [e3, ← hNN]
                simpa using hown3
              obtain ⟨a3, c3, rfl, hS3, hac3, hlc3, hbl⟩ := strs_own hown (by omega)
              have hE3 := hE5.later g3
              have hna3 : ∀ x, a3 = some x → ¬ fp' x.block ∧ x.block < W3.heap.size := fun x hx => ⟨fun hb => by have := hE5.led.lt _ hb; have := (hbl x hx).1; omega, (hbl x hx).2⟩
              have hN3 := hN5.trans hNN
              clear hown hown1 hown2 hown3 hgrow1 hgrow2 hgrow3 hr1 hr2 hr3 g1 g2 hE5 hN5 hNN hbl e3 hA0 hda lt ld e1 e2 hS5 hat hm hlc hac
              have hn3 : E'.length = N3.length := by rw [← hN3]; simp
              have kn := nodes_any W3 L fp' p' q' E' [] hE3.led (by have := hE3.eight; omega) (fun e he => (hE3.ok e he).2.2.2)
              have ok3 : ∀ e ∈ E', e.2.nm = e.1 := fun e he => (hE3.ok e he).2.2.1
              rw [hn3] at kn
              have H3 : Hid (E'.map (·.1) = N3 ∧ E'.length = N3.length) := ⟨hN3, hn3⟩
              have H4 : Hid (∀ x, a3 = some x → ¬ fp' x.block ∧ x.block < W3.heap.size) := hna3
              have H5 : Hid (N3.length ≤ 8) := by show _ ≤ _; rw [← hn3]; exact hE3.eight
              clear hn3 hN3 hna3
              go_wp2_with (go_at_call 25; refine kn.mono ?_; rintro e w6 ⟨g, cg, l, rfl, hNd, hl, hcg, h6⟩)
              all_goals
                have hE6 := hE3.later h6
                have hS6 := hS3.later h6
                have hnm := node_nm hNd hl ok3 H3.out.1
                clear kn hNd hl hcg hE3 hS3
                go_loopw [12] (fun i wx => ∃ j : Nat, j ≤ N3.length ∧ i = .int .i64 j ∧ Below w6.heap.size w6 wx) (fun i _ => N3.length - (intOf i).toNat)
                case atStart => exact ⟨0, Nat.zero_le _, rfl, Below.refl _ _⟩
                case round =>
                  obtain ⟨j, hj, rfl, hbj⟩ := hrel
                  have hN9 := H5.out
                  by_cases hjl : j < N3.length
                  · obtain ⟨x3, rfl, hq⟩ := (hS6.later hbj).2 j hjl
                    have hn := hnm j hjl
                    have hn := cell_below hbj hn (block_lt hn)
                    obtain ⟨y, hy⟩ : ∃ y, N3.getD j ByteArray.empty = y := ⟨_, rfl⟩
                    rw [hy] at hn hq
                    clear hy hnm
                    go_upto_region 29 with fail
                    go_quiet (fail)
                    go_wp2
                    go_roundw
                    case rel => exact ⟨j + 1, hjl, by go_num, below_drewN hbj _⟩
                    case measure => simp [intOf]; omega
                  · have hge : N3.length ≤ j := by omega
                    clear hnm
                    go_wp2
                    go_roundw
                    case rel =>
                      have hE7 := hE6.later hbj
                      refine ⟨k + 1, fp', p', q', E', a3, c3, by omega, by go_num, by rw [H3.out.2], hE7, ?_, hac3, by rw [H3.out.2]; exact hlc3, fun x hx => ⟨(H4.out x hx).1, Nat.lt_of_lt_of_le (H4.out x hx).2 (Nat.le_trans h6.size hbj.size)⟩⟩
                      rw [H3.out.1]
                      exact hS6.later hbj
                    case measure => simp [intOf]; omega
    · rcases (by omega : len0 ≤ k ∨ (k < len0 ∧ 30 ≤ k)) with hx | ⟨hx, hx'⟩
      · clear hlt hrow
        go_wp2
        go_ret
        exact ⟨rfl, hE.bel⟩
      · clear hlt hrow
        have h30 : (30 : Int) ≤ k := by omega
        go_wp2
        go_ret
        exact ⟨rfl, hE.bel⟩

end Go.Proofs.Ytcmgpbdciifdmaa
