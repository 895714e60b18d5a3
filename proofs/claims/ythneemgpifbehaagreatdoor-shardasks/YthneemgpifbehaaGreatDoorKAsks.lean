/- The walk of ShardAsks. -/
import Derived.Test.YthneemgpifbehaaGreatDoorKHY
namespace Go.Proofs.YthneemgpifbehaaGreatDoor
open Go.RowKit Go.Maps
set_option linter.unusedSimpArgs false
set_option linter.unusedVariables false

set_option maxRecDepth 100000 in
set_option maxHeartbeats 16000000 in
theorem shardAsks_walk (n t : Int) (yes : Bool) (w : World) (hB : Base w.heap.size w) :
    Calls Tryz.prog 7 #[.int .i64 n, .int .i64 t, .bool yes] w fun e w' => e = .returned (.bool true) ∧ Below w.heap.size w w' := by
  obtain ⟨B, hB0⟩ : ∃ B, w.heap.size = B := ⟨_, rfl⟩
  have kk := known10_any w hB
  rw [hB0] at hB kk ⊢
  clear hB0
  obtain ⟨i0, hi, hz0, hz1, hz2⟩ := info_parts infoInt
  go_enter Tryz.func7, Tryz.ntmps7
  go_upto_region 4 with (first
    | (go_at_call 9; refine kk.mono ?_; rintro e w1 ⟨rfl, hb1⟩)
    | (go_at_call 10; refine (open10_nil _ _).mono ?_; rintro e w2 ⟨W, rfl, hO⟩))
  obtain ⟨S, T, X, Y, fp, hs2⟩ := open_site (hB.on hb1) hb1 hO
  have kn := qnode_one w2 S T fp 1 0 B hs2.base hs2.s hs2.low 0 0 (by decide) (by decide) 0 0 rfl rfl
  have cW := hs2.head.cell (i := 0) (v := .pointer (some ⟨S, 0, none⟩)) rfl
  clear kk hO hb1
  go_upto_region 6 with (go_at_call 25; refine kn.mono ?_; rintro e w3 ⟨rfl, fp3, h3, hT3⟩)
  have hs3 := hs2.turn h3 hT3
  clear kn h3 hT3 hs2 cW
  have kp := lPeers_any n w3
  go_upto_region 7 with (go_at_call 28; refine kp.mono ?_; rintro e w4 ⟨v, rfl, hv, hb4⟩)
  clear kp
  have hpos := peersTo_pos n
  have hle4 := peersTo_le n 4
  have hris := peersTo_rise n 4 (Nat.le_refl _)
  have hmem := peersTo_mem n 4
  obtain ⟨ps, hps⟩ : ∃ ps, peersTo n 4 = ps := ⟨_, rfl⟩
  rw [hps] at hpos hle4 hris hmem hv
  clear hps
  obtain ⟨en, hen⟩ : ∃ k, ps.length = k + 1 := ⟨ps.length - 1, by omega⟩
  rw [hen] at hv
  obtain ⟨g, cap, rfl⟩ := own_succ hv
  have hN4 := nats_own hv hen
  obtain ⟨pc, hpb, hpg, _⟩ := own_box hv
  have hfg : ¬ fp3 g := fun hc => by have := hs3.s.lt _ hc; omega
  have hs4 := (hs3.later hb4).add hpb hfg
  have hsP := hs4.new #[.string pB, .int .i64 1, .int .i64 0, .int .i64 0, .slice none 0 0, .slice none 0 0, .bool false] 63
  have kh := ask_hold hsP hsP.head
  have cW := hs4.tail.head.cell (i := 0) (v := .pointer (some ⟨S, 0, none⟩)) rfl
  go_upto_region 8 with (go_at_call 14; refine kh.mono ?_; rintro e w5 ⟨R5, rfl, fp5, x5, hs5, hA5⟩)
  clear kh hs3 cW
  have hN5 : Nats w5 (some ⟨g, 0, none⟩) ps := hN4.frame fun y hy _ => by
    cases hy
    exact hs5.tail.head.trans hpb.symm
  have hf5 := (hs5.bx _ (List.mem_cons_of_mem _ (List.mem_cons_self ..))).2
  have hg5 := hs5.tail.head.lt
  have kp := ask_prep hs5.tail hA5 (some ⟨g, 0, none⟩) (en + 1) cap ps hN5 hen (by omega) (by omega) hris (fun p hp => by have := hmem p hp; omega) (SP.some _ _) (fun y hy => by cases hy; exact ⟨hg5, hf5⟩)
  have cW := hs5.tail.tail.head.cell (i := 0) (v := .pointer (some ⟨S, 0, none⟩)) rfl
  go_upto_region 9 with (go_at_call 14; refine kp.mono ?_; rintro e w6 ⟨R, rfl, bR, fp6, x6, hs6, hnR, ⟨pa, pcc, hA6⟩, hT6⟩)
  clear kp hs5 cW hsP hs4 hf5 hg5 hA5
  obtain ⟨r0, r1, r2, r3, r4, r5, r6⟩ := bR.cells7
  have hN6 : Nats w6 (some ⟨g, 0, none⟩) ps := hN4.frame fun y hy _ => by
    cases hy
    exact hs6.head.trans hpb.symm
  go_upto_region 11 with fail
  have hown0 : (w6.alloc (.cells #[.int .i64 0] 3)).ownsRow w6.heap.size 3 1 (.slice (some ⟨w6.heap.size, 0, none⟩) 1 1) 1 [natV 0] :=
    ⟨rfl, .inr ⟨w6.heap.size, 1, #[.int .i64 0], rfl, Nat.le_refl _, Box.new _ _ _ rfl, Nat.le_refl _, (by unfold maxLen; omega), rfl, rfl⟩⟩
  have hb60 := up (Below.refl w6.heap.size w6) (.cells #[.int .i64 0] 3)
  clear r0 r1 r2 r3 r4 r5 r6 bR hnR hT6
  go_wp2
  go_loopw [10, 11] (fun v10 v11 wr => ∃ (k : Nat), k ≤ en + 1 ∧ v11 = .int .i64 k ∧ wr.ownsRow w6.heap.size 3 1 v10 ((toL (ps.take k)).length) ((toL (ps.take k)).map natV) ∧ Below w6.heap.size w6 wr) (fun _ i _ => en + 1 - (intOf i).toNat)
  case atStart => exact ⟨0, Nat.zero_le _, rfl, by simpa [askTo] using hown0, hb60⟩
  case round =>
    obtain ⟨k, hk, rfl, hown, hbw⟩ := hrel
    clear hown0 hb60
    by_cases hlt : k < en + 1
    · obtain ⟨y, hy, hc⟩ := hN6 k (by omega)
      obtain rfl : (⟨g, 0, none⟩ : Addr) = y := by injection hy
      have hcr := cell_below hbw hc (block_lt hc)
      obtain ⟨p, hp⟩ : ∃ p, ps.getD k 0 = p := ⟨_, rfl⟩
      have ht := askTo_take 1 ps k (by omega)
      rw [hp] at hcr ht
      have hle : (askTo 1 (ps.take k)).length ≤ 4 := by
        have h1 : (askTo 1 (ps.take k)).length ≤ (ps.take k).length := List.length_filter_le _ _
        rw [List.length_take] at h1
        omega
      obtain ⟨m, hm⟩ : ∃ m, (toL (ps.take k)).length = m := ⟨_, rfl⟩
      obtain ⟨xs, hxs⟩ : ∃ xs, (toL (ps.take k)).map natV = xs := ⟨_, rfl⟩
      have hX : Hid ((toL (ps.take k)).map natV = xs ∧ (toL (ps.take k)).length = m) := ⟨hxs, hm⟩
      have hT : Hid (askTo 1 (ps.take (k + 1)) = askTo 1 (ps.take k) ++ if (p : Int) = 1 then [] else [p]) := ht
      have hm5 : m ≤ 5 := by rw [← hm]; simp; omega
      rw [hm, hxs] at hown
      have hzr := hbw.size
      have hk5 : k < 4 := by omega
      obtain ⟨a10, c10, rfl⟩ := tslice_of_own hown
      have hownA := hown.alloc (.cells #[.int .i64 p] 3)
      have eA : (⟨g, 0, none⟩ : Addr).add k = ⟨g, k, none⟩ := by
        cases k with
        | zero => rfl
        | succ i => simp [Addr.add]
      rw [eA] at hcr
      have hcr2 : wr.cell? ⟨g, 0 + k, none⟩ = some (.int .i64 p) := by rw [Nat.zero_add]; exact hcr
      clear eA
      clear hc ht hm hxs hle hp hA6 hs6 hpos hle4 hris hmem hN4 hN6 hv
      by_cases hpm : (p : Int) = 1
      · have hT2 : Hid (toL (ps.take (k + 1)) = toL (ps.take k)) := by
          show _ = _
          unfold toL
          rw [hT.out, if_pos hpm, List.append_nil]
        clear hT
        rw [hpm] at hcr hcr2
        go_wp2
        go_roundw
        case rel => exact ⟨k + 1, hlt, by go_num, by rw [hT2.out, hX.out.1, hX.out.2]; exact hown, hbw⟩
        case measure => simp [intOf]; omega
      · have hT2 : Hid (toL (ps.take (k + 1)) = toL (ps.take k) ++ [p]) := by
          show _ = _
          unfold toL
          rw [hT.out, if_neg hpm]; rfl
        clear hT
        have hA2 : ∀ (j : Nat) (u : Value), [(Value.int .i64 p)][j]? = some u → (wr.alloc (.cells #[.int .i64 p] 3)).cell? ((⟨wr.heap.size, 0, none⟩ : Addr).add j) = some u := cell_one_new _ _ _
        have hA3 : w6.heap.size ≤ (wr.alloc (.cells #[.int .i64 p] 3)).heap.size := by simp; omega
        have hA4 : m + 1 ≤ maxLen := by unfold maxLen; omega
        have hA5 : (m + 1) * 8 ≤ 140737488355328 := by omega
        go_wp2_with (at_builtin; refine wpList_append_own _ rfl _ _ 22 rfl w6.heap.size 3 i0 (.int .i64 0) 1 8 Tryz.underlying22 hi hz0 hz1 hz2 rfl (by decide) (.slice a10 m c10) m xs rfl hownA ⟨_, 0, none⟩ 1 1 [.int .i64 p] rfl rfl hA2 (fun u hu => by simp at hu; subst hu; rfl) hA4 hA5 hA3 ?_; intro v2 w3 ho3 hg3 hnil)
        go_roundw
        case rel => exact ⟨k + 1, hlt, by go_num, by rw [hT2.out, List.map_append, List.length_append, hX.out.1, hX.out.2]; simpa [natV] using ho3, (up hbw _).grown hg3 (by simp; omega) (fun j hj => (hown.lt j hj).1)⟩
        case measure => simp [intOf]; omega
    · have : k = en + 1 := by omega
      subst this
      have htk : ps.take (en + 1) = ps := List.take_of_length_le (by omega)
      rw [htk] at hown
      have hs7 := hs6.later hbw
      obtain ⟨tl, htl⟩ : ∃ q, (askTo 1 ps).length = q := ⟨_, rfl⟩
      have htl2 : (toL ps).length = tl + 1 := by rw [← htl]; rfl
      have htl4 : tl ≤ 4 := by
        have h1 : (askTo 1 ps).length ≤ ps.length := List.length_filter_le _ _
        omega
      rw [htl2] at hown
      obtain ⟨h, hcap, rfl⟩ := own_succ hown
      obtain ⟨hc, hhb, hhg, hcell⟩ := own_box hown
      have hfh : ¬ fp6 h := fun hc => by have := hs6.s.lt _ hc; omega
      have hs8 := hs7.add hhb hfh
      have hap : AP ((1 : Nat) - 1 : Int) pa pcc ps x6 := by simpa using hA6
      clear hs6 hbw hN6 hN4 hv hfh hs7 hhb hhg hA6 hpb hpg hfg hb4 hi hz0 hz1 hz2 i0 htk hlt hk
      obtain ⟨q, hq⟩ : ∃ q, t % 9 = q := ⟨_, rfl⟩
      have hq0 : 0 ≤ q ∧ q < 9 := by omega
      go_wp2
      go_loopw [12] (fun v12 wx => ∃ (i : Nat) (fp' : Nat → Prop) (x' : ShS), v12 = .int .i64 i ∧ 1 ≤ i ∧ (i : Int) ≤ q + 2 ∧ Site B w S T [(h, hc, 3), (g, pc, 3), (W, #[.pointer (some ⟨S, 0, none⟩), .pointer (some ⟨T, 0, none⟩), .pointer (some ⟨X, 0, none⟩), .pointer (some ⟨Y, 0, none⟩), .int .i64 0], 33)] x' fp' wx ∧ AP ((i : Int) - 1) pa pcc ps x') (fun v12 _ => 20 - (intOf v12).toNat)
      case atStart => exact ⟨1, fp6, x6, rfl, by decide, by omega, hs8, hap⟩
      case round =>
        obtain ⟨i, fp7, x7, rfl, hi1, hiq, hs, hA⟩ := hrel
        clear hs8 hap
        by_cases hlt : (i : Int) ≤ 1 + q
        · have cW := hs.tail.tail.head.cell (i := 0) (v := .pointer (some ⟨S, 0, none⟩)) rfl
          by_cases h4 : i < 4
          · have kt := ask_tick_few hs hA (by omega) (by omega)
            clear hs hA
            go_upto_region 21 with (first
              | (go_at_call 11; refine (within_any _ _ _ (by decide) (by decide) (by assumption) _).mono ?_; rintro e wq ⟨rfl, rfl⟩)
              | (go_at_call 27; refine kt.mono ?_; rintro e w9 ⟨rfl, fp9, x9, hs9, hA9⟩))
            have e9 : AP (((i + 1 : Nat) : Int) - 1) pa pcc ps x9 := by
              have : ((i + 1 : Nat) : Int) - 1 = (i : Int) - 1 + 1 := by omega
              rw [this]; exact hA9
            go_wp2
            go_loopw [14] (fun v14 wx => v14 = .int .i64 0 ∧ wx = w9) (fun _ _ => 0)
            case atStart => exact ⟨rfl, rfl⟩
            case round =>
              obtain ⟨rfl, rfl⟩ := hrel
              go_wp2
              go_roundw
              case rel =>
                iterate 81 (apply Exists.intro)
                refine ⟨⟨i + 1, fp9, x9, ?_, by omega, by omega, hs9, e9⟩, rfl⟩
                go_num
              case measure => simp [intOf]; omega
          · have kt := ask_tick_many hs hA (by omega) (by omega)
            clear hs hA
            go_upto_region 21 with (first
              | (go_at_call 11; refine (within_any _ _ _ (by decide) (by decide) (by assumption) _).mono ?_; rintro e wq ⟨rfl, rfl⟩)
              | (go_at_call 27; refine kt.mono ?_; rintro e w9 ⟨v9, rfl, hv9, fp9, x9, hs9, hA9⟩))
            have e9 : AP (((i + 1 : Nat) : Int) - 1) pa pcc ps x9 := by
              have : ((i + 1 : Nat) : Int) - 1 = (i : Int) - 1 + 1 := by omega
              rw [this]; exact hA9
            rw [htl] at hv9
            obtain ⟨m, mcap, rfl⟩ := own_succ hv9
            obtain ⟨mc, hmb, _, _⟩ := own_box hv9
            have hmc := fun j (hj : j < (tl + 1) * 7) => hv9.cellAt j hj
            have hc1 := fun j (hj : j < (tl + 1) * 1) => hcell w9 hs9.head j hj
            clear cW
            go_wp2
            go_loopw [14] (fun v14 wx => ∃ j : Nat, v14 = .int .i64 j ∧ j ≤ tl + 1 ∧ Below w9.heap.size w9 wx) (fun v14 _ => tl + 1 - (intOf v14).toNat)
            case atStart => exact ⟨0, rfl, Nat.zero_le _, Below.refl _ _⟩
            case round =>
              obtain ⟨j, rfl, hj, hbw⟩ := hrel
              by_cases hjl : j < tl + 1
              · have hmj := fun f (hf : f < 7) => (hmc (j * 7 + f) (by omega)).trans (asks_get 1 3 ps j f hf (by rw [htl]; omega))
                have hcj := hc1 j (by omega)
                have ej : (toL ps)[j]? = some ((toL ps).getD j 0) := by rw [List.getD_eq_getElem?_getD, List.getElem?_eq_getElem (by omega)]; rfl
                rw [List.getElem?_map, ej] at hcj
                obtain ⟨p, hp⟩ : ∃ p, (toL ps).getD j 0 = p := ⟨_, rfl⟩
                have hp2 : (0 :: askTo 1 ps).getD j 0 = p := hp
                simp only [hp2] at hmj
                rw [hp] at hcj
                have c1' : w9.cell? ⟨h, j, none⟩ = some (.int .i64 p) := hcj
                have c1 := cell_below hbw c1' (block_lt c1')
                have m0' : w9.cell? ⟨m, j * 7, none⟩ = some (.int .i64 7) := hmj 0 (by decide)
                have m0 := cell_below hbw m0' (block_lt m0')
                have m1' : w9.cell? ⟨m, j * 7 + 1, none⟩ = some (.int .i64 1) := hmj 1 (by decide)
                have m1 := cell_below hbw m1' (block_lt m1')
                have m2' : w9.cell? ⟨m, j * 7 + 2, none⟩ = some (.int .i64 p) := hmj 2 (by decide)
                have m2 := cell_below hbw m2' (block_lt m2')
                have m3' : w9.cell? ⟨m, j * 7 + 3, none⟩ = some (.int .i64 3) := hmj 3 (by decide)
                have m3 := cell_below hbw m3' (block_lt m3')
                have m6' : w9.cell? ⟨m, j * 7 + 6, none⟩ = some (.bool false) := hmj 6 (by decide)
                have m6 := cell_below hbw m6' (block_lt m6')
                clear c1' m0' m1' m2' m3' m6' hmj hcj hmc hc1 hp hp2 ej hs9 e9 hA9 hv9 hmb hcell
                go_upto_region 26 with fail
                go_region_held3 (fun w' => w'.cell? ⟨h, j, none⟩ = some (.int .i64 p) ∧ w'.cell? ⟨m, j * 7, none⟩ = some (.int .i64 7) ∧ w'.cell? ⟨m, j * 7 + 1, none⟩ = some (.int .i64 1) ∧ w'.cell? ⟨m, j * 7 + 2, none⟩ = some (.int .i64 p) ∧ w'.cell? ⟨m, j * 7 + 3, none⟩ = some (.int .i64 3) ∧ w'.cell? ⟨m, j * 7 + 6, none⟩ = some (.bool false))
                  (exact ⟨c1, m0, m1, m2, m3, m6⟩)
                  (fail)
                all_goals
                  go_wp2
                  go_roundw
                  case rel => exact ⟨j + 1, by go_num, hjl, hbw.drew⟩
                  case measure => simp [intOf]; omega
              · have : j = tl + 1 := by omega
                subst this
                clear hmc hc1
                go_wp2
                go_roundw
                case rel =>
                  iterate 81 (apply Exists.intro)
                  refine ⟨⟨i + 1, fp9, x9, ?_, by omega, by omega, hs9.later hbw, e9⟩, rfl⟩
                  go_num
                case measure => simp [intOf]; omega
        · have hiq2 : (i : Int) = q + 2 := by omega
          have cW := hs.tail.tail.head.cell (i := 0) (v := .pointer (some ⟨S, 0, none⟩)) rfl
          cases yes
          · have kt := ask_tell hs hA false
            clear hA hs
            go_upto_region 30 with (first
              | (go_at_call 11; refine (within_any _ _ _ (by decide) (by decide) (by assumption) _).mono ?_; rintro e wq ⟨rfl, rfl⟩)
              | (go_at_call 14; refine kt.mono ?_; rintro e w9 ⟨rfl, fp9, x9, hs9, hA9⟩; have cW9 := hs9.tail.tail.head.cell (i := 0) (v := .pointer (some ⟨S, 0, none⟩)) rfl)
              | (go_at_call 27; refine (qtick_nil hs9.s hA9.U).mono ?_; rintro e w10 ⟨rfl, _, hb10⟩))
            have hs10 := hs9.later hb10
            have ks := qstate_any hs10.s 3 (wfN 3 (by decide))
            rw [hA9.state] at ks
            have kp := qplaces_any hs10.s 3 (wfN 3 (by decide)) [] 0 (by rw [show x9.G = [] from hA9.G]; rfl) rfl
            have cX := hs10.tail.tail.head.cell (i := 0) (v := .pointer (some ⟨S, 0, none⟩)) rfl
            clear kt cW cW9
            go_wp2_with (first
              | (go_at_call 16; refine ks.mono ?_; rintro e w11 ⟨rfl, rfl⟩)
              | (go_at_call 29; refine kp.mono ?_; rintro e w12 ⟨a12, c12, rfl, _, _, _, _, hb12⟩))
            go_ret
            exact ⟨rfl, (hs10.later hb12).below⟩
          · have kt := ask_tell hs hA true
            clear hA hs
            go_upto_region 30 with (first
              | (go_at_call 11; refine (within_any _ _ _ (by decide) (by decide) (by assumption) _).mono ?_; rintro e wq ⟨rfl, rfl⟩)
              | (go_at_call 14; refine kt.mono ?_; rintro e w9 ⟨rfl, fp9, x9, hs9, hA9⟩; have cW9 := hs9.tail.tail.head.cell (i := 0) (v := .pointer (some ⟨S, 0, none⟩)) rfl)
              | (go_at_call 27; refine (qtick_nil hs9.s hA9.U).mono ?_; rintro e w10 ⟨rfl, _, hb10⟩))
            have hs10 := hs9.later hb10
            have ks := qstate_any hs10.s 3 (wfN 3 (by decide))
            rw [hA9.state] at ks
            obtain ⟨aG, cG, hG⟩ : ∃ a c, x9.G = [(3, ⟨a, c, [plA]⟩)] := hA9.G
            have kp := qplaces_any hs10.s 3 (wfN 3 (by decide)) [plA] 1 (by rw [hG]; rfl) rfl
            have cX := hs10.tail.tail.head.cell (i := 0) (v := .pointer (some ⟨S, 0, none⟩)) rfl
            clear kt cW cW9
            go_wp2_with (first
              | (go_at_call 16; refine ks.mono ?_; rintro e w11 ⟨rfl, rfl⟩)
              | (go_at_call 29; refine kp.mono ?_; rintro e w12 ⟨a12, c12, rfl, _, _, _, _, hb12⟩))
            go_ret
            exact ⟨rfl, (hs10.later hb12).below⟩

end Go.Proofs.YthneemgpifbehaaGreatDoor
