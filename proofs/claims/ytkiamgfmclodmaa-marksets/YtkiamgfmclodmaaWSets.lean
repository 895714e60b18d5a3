/- The walk of MarkSets: it returns true. -/
import Derived.Test.YtkiamgfmclodmaaQ
import Derived.Deep.RegionHeld3
import Derived.Deep.DrawnRows
import Derived.Deep.CutBlock
import Derived.Deep.DeepCutAuto
import Derived.StillTactics
import Derived.Laws.Pointers
namespace Go.Proofs.Ytkiamgfmclodmaa
open Go.RowKit Go.Maps
attribute [local go_sem ↓] Go.wp_at_zero Go.wp_at_succ

set_option maxRecDepth 100000 in
set_option maxHeartbeats 8000000 in
theorem markSets_walk (a0 : Option Addr) (len0 cap0 : Nat) (z0 : List Int) (b0 : Option Addr) (len1 cap1 : Nat) (z1 : List Int) (raw : ByteArray) (t : Int) (w : World) (w0 : IsRow .i64 w a0 len0 cap0 z0) (w1 : IsRow .i64 w b0 len1 cap1 z1) (hraw : raw.size ≤ maxLen) (_w3 : (Lit.int .i64 t).wf = true) :
    Calls Try.prog 6 #[.slice a0 len0 cap0, .slice b0 len1 cap1, .string raw, .int .i64 t] w fun e w' => e = .returned (.bool true) ∧ Below w.heap.size w w' := by
  replace w0 := w0.has
  replace w1 := w1.has
  have hb0 : Below w.heap.size w w := Below.refl _ _
  have l0 : len0 ≤ 9223372036854775807 := w0.1
  have l1 : len1 ≤ 9223372036854775807 := w1.1
  have hraw0 : raw.size ≤ 9223372036854775807 := hraw
  by_cases h100 : (100 : Int) < raw.size
  · clear w0 w1
    go_enter Try.func6, Try.ntmps6
    go_wp2_with (go_at_call 9; refine (known_on _ _ (by assumption)).mono ?_; rintro e w9 ⟨rfl, hb1⟩)
    go_ret
    exact ⟨rfl, hb1⟩
  · have hr100 : raw.size ≤ 100 := by omega
    go_enter Try.func6, Try.ntmps6
    go_upto_block 0 with (go_at_call 9; refine (known_on _ _ (by assumption)).mono ?_; rintro e w9 ⟨rfl, hb1⟩)
    go_cut [9] (fun v wr => ∃ (a : Option Addr) (c : Nat) (xs : List ByteArray), v = .slice a xs.length c ∧ Strs wr a xs ∧ (a = none → c = 0) ∧ Short xs ∧ xs.length ≤ 6 ∧ Below w.heap.size w wr)
    case first =>
      clear w1
      go_wp2
      go_loopw [9, 11] (fun v i wr => ∃ (k : Nat) (xs : List ByteArray), k ≤ 6 ∧ i = .int .i64 k ∧ xs.length = k ∧ wr.ownsRow w.heap.size 9 1 v k (xs.map Value.string) ∧ Short xs ∧ Below w.heap.size w wr) (fun _ i _ => 6 - (intOf i).toNat)
      case atStart => exact ⟨0, [], Nat.zero_le _, rfl, rfl, World.ownsRow_nil _ _ _ _, Short.nil, hb1⟩
      case round =>
        obtain ⟨k, xs, hk, rfl, hxl, hrow, hsh, hbw⟩ := hrel
        by_cases hlt : k < len0 ∧ k < 6
        · obtain ⟨hlen, h6⟩ := hlt
          obtain ⟨x, z, rfl, hcz⟩ := w0.at hbw (Nat.le_refl _) k hlen
          obtain ⟨s, hs⟩ : ∃ s, nameAt z = s := ⟨_, rfl⟩
          have hs1 : s.size ≤ 100 := by rw [← hs]; exact nameAt_size z
          have hll : xs.length ≤ 1000 := by omega
          clear w0
          go_wp2_with (first
            | (go_at_call 16; refine (lName_is _ _ _ _ (Below.refl _ _) hs).mono ?_; rintro e w2 ⟨rfl, hb2⟩; have hrow2 := own_later hrow hb2; have hbw2 := hbw.trans (hb2.mono hbw.size))
            | (at_builtin; refine append_strs rfl _ _ rfl w.heap.size _ k xs rfl (hrow2.alloc _) (some ⟨_, 0, none⟩) 1 1 [s] rfl (strs_one (cell_new1 _ _)) rfl (fun h => by cases h) hll (by have := hbw2.size; simp; omega) ?_; intro v' w' hown' hgrow')
            | go_in)
          go_roundw
          case rel => exact ⟨k + 1, xs ++ [s], h6, by go_num, by simp; omega, hown', hsh.snoc hs1, (hbw2.alloc hbw2.size _).grown hgrow' (by have := hbw2.size; simp; omega) (fun j hj => (hrow.lt j hj).1)⟩
          case measure => simp [intOf]; omega
        · rcases (by omega : len0 ≤ k ∨ (k < len0 ∧ 6 ≤ k)) with hx | ⟨hx, hx'⟩
          all_goals
            clear hlt w0
            obtain ⟨a, c, rfl, hS, hc, _⟩ := strs_of_own hrow (by omega)
            clear hrow
            go_wp2
            go_meet
            case rel => exact ⟨a, c, xs, by rw [hxl], hS, hc, hsh, by omega, hbw⟩
    case rest =>
      obtain ⟨a1, c1, xs, rfl, hS1, hc1, hsh1, hl1, hbw1⟩ := hcut
      clear w0
      go_upto_block 2 with fail
      go_cut [10] (fun v wr => ∃ (a : Option Addr) (c : Nat) (ys : List ByteArray), v = .slice a ys.length c ∧ Strs wr a ys ∧ Short ys ∧ Below wc.heap.size wc wr)
      case first =>
        go_wp2
        go_loopw [10, 12] (fun v i wr => ∃ (k : Nat) (ys : List ByteArray), k ≤ 6 ∧ i = .int .i64 k ∧ ys.length = k ∧ wr.ownsRow wc.heap.size 9 1 v k (ys.map Value.string) ∧ Short ys ∧ Below wc.heap.size wc wr) (fun _ i _ => 6 - (intOf i).toNat)
        case atStart => exact ⟨0, [], Nat.zero_le _, rfl, rfl, World.ownsRow_nil _ _ _ _, Short.nil, Below.refl _ _⟩
        case round =>
          obtain ⟨k, ys, hk, rfl, hxl, hrow, hsh, hbw⟩ := hrel
          by_cases hlt : k < len1 ∧ k < 6
          · obtain ⟨hlen, h6⟩ := hlt
            obtain ⟨x, z, rfl, hcz⟩ := w1.at (hbw1.trans (hbw.mono hbw1.size)) (Nat.le_refl _) k hlen
            obtain ⟨s, hs⟩ : ∃ s, nameAt z = s := ⟨_, rfl⟩
            have hs1 : s.size ≤ 100 := by rw [← hs]; exact nameAt_size z
            have hll : ys.length ≤ 1000 := by omega
            clear w1 hS1
            go_wp2_with (first
              | (go_at_call 16; refine (lName_is _ _ _ _ (Below.refl _ _) hs).mono ?_; rintro e w2 ⟨rfl, hb2⟩; have hrow2 := own_later hrow hb2; have hbw2 := hbw.trans (hb2.mono hbw.size))
              | (at_builtin; refine append_strs rfl _ _ rfl wc.heap.size _ k ys rfl (hrow2.alloc _) (some ⟨_, 0, none⟩) 1 1 [s] rfl (strs_one (cell_new1 _ _)) rfl (fun h => by cases h) hll (by have := hbw2.size; simp; omega) ?_; intro v' w' hown' hgrow')
              | go_in)
            go_roundw
            case rel => exact ⟨k + 1, ys ++ [s], h6, by go_num, by simp; omega, hown', hsh.snoc hs1, (hbw2.alloc hbw2.size _).grown hgrow' (by have := hbw2.size; simp; omega) (fun j hj => (hrow.lt j hj).1)⟩
            case measure => simp [intOf]; omega
          · rcases (by omega : len1 ≤ k ∨ (k < len1 ∧ 6 ≤ k)) with hx | ⟨hx, hx'⟩
            all_goals
              clear hlt w1
              obtain ⟨a, c, rfl, hS, hc, _⟩ := strs_of_own hrow (by omega)
              clear hrow
              go_wp2
              go_meet
              case rel => exact ⟨a, c, ys, by rw [hxl], hS, hsh, hbw⟩
      case rest =>
        obtain ⟨a2, c2, ys, rfl, hS2, hsh2, hb2⟩ := hcut
        replace hS1 := hS1.later hb2
        replace hbw1 := hbw1.trans (hb2.mono hbw1.size)
        clear hb2 w1
        go_upto_if 62 with (first
          | (at_builtin; refine append_strs rfl _ _ rfl _ (.slice (some ⟨_, 0, none⟩) 0 0) 0 [] rfl (World.ownsRow_lit _ _ _ (Nat.le_refl _) (Nat.zero_le _) rfl) a1 xs.length c1 xs rfl (hS1.later ((Below.refl _ _).alloc (Nat.le_refl _) _)) rfl hc1 (by simp) (by simp) ?_; intro v3 w5 hown3 hgrow3
             have hb5 : Below wc.heap.size wc w5 := ((Below.refl _ _).alloc (Nat.le_refl _) _).grown hgrow3 (by simp) (fun j hj => by cases hj; exact Nat.le_refl _)
             replace hown3 : w5.ownsRow wc.heap.size 9 1 v3 xs.length (xs.map Value.string) := by simpa using hown3
             obtain ⟨a3, c3, rfl, hS3, _, _⟩ := strs_of_own hown3 (by omega)
             clear hgrow3)
          | go_in)
        go_cut [13] (fun v wr => ∃ (a : Option Addr) (c : Nat) (zs : List ByteArray), v = .slice a zs.length c ∧ Strs wr a zs ∧ Short zs ∧ Below wc.heap.size wc wr)
        case first =>
          clear hS1 hS2 hbw1
          by_cases hn : (0 : Int) < xs.length
          · rcases hown3.2 with ⟨_, h0⟩ | ⟨g, cap, cur, hv, hg, _⟩
            · omega
            · simp only [Value.slice.injEq, true_and] at hv
              obtain ⟨rfl, rfl⟩ := hv
              obtain ⟨j, hj⟩ : ∃ j : Nat, t % (xs.length : Int) = j := ⟨(t % (xs.length : Int)).toNat, by have := Int.emod_nonneg t (show (xs.length : Int) ≠ 0 by omega); omega⟩
              have hj1 : (j : Int) < xs.length := by have := Int.emod_lt_of_pos t hn; omega
              have hcj : w5.cell? ⟨g, j, none⟩ = some (.string (xs.getD j ByteArray.empty)) := by
                rw [hown3.cellAt j (by omega)]
                simp [List.getElem?_eq_getElem (show j < xs.length by omega)]
              have hfj := hown3.frozenAt j
              have hst := (hown3.stored j (.string raw)).1
              clear hS3
              go_wp2_with (first
                | (go_at_call 11; refine (within_any _ _ _ (by omega) (by omega) hj _).mono ?_; rintro e w6 ⟨rfl, rfl⟩)
                | go_in)
              obtain ⟨a4, c4, he, hS4, _⟩ := strs_of_own (ss := xs.set j raw) (by rw [List.map_set]; exact hst) (by simp; omega)
              go_meet
              case rel => exact ⟨a4, c4, xs.set j raw, he, hS4, Short.set hsh1 hr100 j, hb5.setCell hg _⟩
          · go_wp2
            go_meet
            case rel => exact ⟨_, _, xs, rfl, hS3, hsh1, hb5⟩
        case rest =>
          obtain ⟨a3', c3', zs, rfl, hS3', hsh3, hb3⟩ := hcut
          replace hS1 := hS1.later hb3
          replace hS2 := hS2.later hb3
          replace hbw1 := hbw1.trans (hb3.mono hbw1.size)
          obtain ⟨ss, hss⟩ : ∃ ss, marksTo t 4 = ss := ⟨_, rfl⟩
          have hsh5 : Short ss := by rw [← hss]; exact marksTo_mem t 4
          clear hb3 hS3 hown3 hb5
          go_wp2_with (first
            | (go_at_call 17; refine (lSet_is _ _ hss _).mono ?_; rintro e ws ⟨a5, c5, rfl, hS5, _, _, hb7⟩; replace hS1 := hS1.later hb7; replace hS2 := hS2.later hb7; replace hS3' := hS3'.later hb7; replace hbw1 := hbw1.trans (hb7.mono hbw1.size))
            | go_in)
          go_loopw [15] (fun i wr => ∃ (k : Nat) (L : List (Option Addr × List ByteArray × Nat)), k ≤ 7 ∧ L.length = 7 ∧ i = .int .i64 k ∧ Pack w a1 a2 xs ys (ws.heap.size + 1 + 1) L wr) (fun i _ => 7 - (intOf i).toNat)
          case atStart =>
            have hB : ∀ o1 o2 o3, Below ws.heap.size ws (((ws.alloc o1).alloc o2).alloc o3) := fun o1 o2 o3 => (((Below.refl _ _).alloc (Nat.le_refl _) _).alloc (by simp) _).alloc (by simp; omega) _
            exact ⟨0, _, by omega, rfl, rfl, hbw1.trans ((hB _ _ _).mono hbw1.size), hS1.later (hB _ _ _), hS2.later (hB _ _ _), rows_new ws a1 a2 a3' a5 xs ys zs ss c1 c2 c3' c5 hS1 hS2 hS3' hS5 hsh1 hsh2 hsh3 hsh5⟩
          case round =>
            obtain ⟨k, L, hk, hL, rfl, hP⟩ := hrel
            clear hS1 hS2 hS3' hS5 hbw1
            by_cases hlt : k < 7
            · obtain ⟨p, hp⟩ : ∃ p, L[k]? = some p := ⟨L[k]'(by omega), List.getElem?_eq_getElem (by omega)⟩
              obtain ⟨hc, hSr, hshr⟩ := hP.rows k p hp
              have hPs : ∀ W, Pack w a1 a2 xs ys (ws.heap.size + 1 + 1) L W → Strs W p.1 p.2.1 := fun W h => (h.rows k p hp).2.1
              obtain ⟨av, rs, cv⟩ := p
              clear hp hSr
              simp only at hc hshr hPs
              have i0 : (0 : Int) ≤ (k : Int) := by omega
              have i1 : (k : Int) < 7 := by omega
              obtain ⟨q1, hq1⟩ : ∃ b, setB rs = b := ⟨_, rfl⟩
              obtain ⟨q2, hq2⟩ : ∃ b, allB rs xs = b := ⟨_, rfl⟩
              obtain ⟨q3, hq3⟩ : ∃ b, allB ys rs = b := ⟨_, rfl⟩
              have zr := getD_size rs hshr
              have zx := getD_size xs hsh1
              have zy := getD_size ys hsh2
              have hcd : wr.drew.cell? ⟨ws.heap.size + 1 + 1, k, none⟩ = some (.slice av rs.length cv) := hc
              have hPd : Pack w a1 a2 xs ys (ws.heap.size + 1 + 1) L wr.drew := ⟨hP.below.drew, hP.s1, hP.s2, hP.rows⟩
              clear hc hP hshr
              go_wp2
              go_region_held3 (fun w' => w'.cell? ⟨ws.heap.size + 1 + 1, k, none⟩ = some (.slice av rs.length cv) ∧ Pack w a1 a2 xs ys (ws.heap.size + 1 + 1) L w') (exact ⟨by assumption, by assumption⟩)
                (first
                  | (go_at_call 18; refine (packed (set_is _ _ _ _ _ _ (hPs _ (by assumption)) rfl hq1) (by assumption) (by assumption)).mono ?_; rintro e w8 ⟨rfl, hc8, hP8⟩)
                  | (go_at_call 19; refine (packed (rSet_is _ _ _ _ _ _ (hPs _ (by assumption)) rfl zr hq1) (by assumption) (by assumption)).mono ?_; rintro e w8 ⟨rfl, hc8, hP8⟩)
                  | (go_at_call_of 20 (Value.slice a1 xs.length c1); refine (packed (all_is _ _ _ _ _ _ _ _ _ _ (hPs _ (by assumption)) (by assumption : Pack _ _ _ _ _ _ _ _).s1 rfl rfl zr zx hq2) (by assumption) (by assumption)).mono ?_; rintro e w8 ⟨rfl, hc8, hP8⟩)
                  | (go_at_call_of 21 (Value.slice a1 xs.length c1); refine (packed (rAll_is _ _ _ _ _ _ _ _ _ _ (hPs _ (by assumption)) (by assumption : Pack _ _ _ _ _ _ _ _).s1 rfl rfl hq2) (by assumption) (by assumption)).mono ?_; rintro e w8 ⟨rfl, hc8, hP8⟩)
                  | (go_at_call_of 20 (Value.slice a2 ys.length c2); refine (packed (all_is _ _ _ _ _ _ _ _ _ _ (by assumption : Pack _ _ _ _ _ _ _ _).s2 (hPs _ (by assumption)) rfl rfl zy zr hq3) (by assumption) (by assumption)).mono ?_; rintro e w8 ⟨rfl, hc8, hP8⟩)
                  | (go_at_call_of 21 (Value.slice a2 ys.length c2); refine (packed (rAll_is _ _ _ _ _ _ _ _ _ _ (by assumption : Pack _ _ _ _ _ _ _ _).s2 (hPs _ (by assumption)) rfl rfl hq3) (by assumption) (by assumption)).mono ?_; rintro e w8 ⟨rfl, hc8, hP8⟩)
                  | fail)
              go_wp2
              go_roundw
              case rel => exact ⟨k + 1, L, hlt, hL, by go_num, hP8⟩
              case measure => simp [intOf]; omega
            · have e7 : k = 7 := by omega
              subst e7
              have hb7 := hP.below
              clear hP
              go_wp2
              go_ret
              exact ⟨rfl, hb7⟩

end Go.Proofs.Ytkiamgfmclodmaa
