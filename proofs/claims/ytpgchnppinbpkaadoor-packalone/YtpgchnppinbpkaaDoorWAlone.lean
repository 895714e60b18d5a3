/- The walk of PackAlone. -/
import Derived.Test.YtpgchnppinbpkaaDoorKS
namespace Go.Proofs.YtpgchnppinbpkaaDoor
open Go.RowKit Go.Maps
set_option linter.unusedSimpArgs false
set_option linter.unusedVariables false

def alN : Nat → List Core
  | 0 => []
  | k + 1 => alN k ++ [(sN k, (k : Int), 9, [], [], false)]
theorem alN_len : ∀ k, (alN k).length = k
  | 0 => rfl
  | k + 1 => by simp [alN, alN_len k]
theorem alN_mem : ∀ {k : Nat} {c : Core}, c ∈ alN k → ∃ j, j < k ∧ c.1 = sN j
  | 0, c, h => by cases h
  | k + 1, c, h => by
    rcases List.mem_append.1 h with h | h
    · obtain ⟨j, hj, e⟩ := alN_mem h
      exact ⟨j, by omega, e⟩
    · simp only [List.mem_singleton] at h
      subst h
      exact ⟨k, by omega, rfl⟩
/-- Where they go. -/
def nodesA (n k : Nat) (m : Int) : Option (List ByteArray) := (layR [] m ((alN n).map recOf) [] (podsK 0 0 true k)).map fun l => l.reverse.map (·.node)
def goodA (n k : Nat) (m : Int) : Bool := match nodesA n k m with
  | none => decide (n < k)
  | some ns => decide (k ≤ n) && ns.length == k && decide ns.Nodup
theorem goodA_all : ∀ n : Fin 8, ∀ k : Fin 8, ∀ m : Fin 3, goodA (n.val + 1) (k.val + 1) m.val = true := by decide +kernel

set_option maxRecDepth 100000 in
set_option maxHeartbeats 8000000 in
theorem packAlone_walk (nodes pods mode : Int) (w : World) (hT : Tab w) :
    Calls Tryd.prog 6 #[.int .i64 nodes, .int .i64 pods, .int .i64 mode] w fun e w' => e = .returned (.bool true) ∧ Below w.heap.size w w' := by
  obtain ⟨n0, hn0⟩ : ∃ n : Nat, nodes % 8 = n := ⟨(nodes % 8).toNat, by omega⟩
  obtain ⟨k0, hk0⟩ : ∃ k : Nat, pods % 8 = k := ⟨(pods % 8).toNat, by omega⟩
  obtain ⟨m, hm⟩ : ∃ m : Nat, mode % 3 = m := ⟨(mode % 3).toNat, by omega⟩
  have kn := fun W => within_any nodes 8 n0 (by decide) (by decide) hn0 W
  have kk := fun W => within_any pods 8 k0 (by decide) (by decide) hk0 W
  have km := fun W => within_any mode 3 m (by decide) (by decide) hm W
  have hm3 : m < 3 := by omega
  obtain ⟨i0, hi, hz0, hz1, hz2⟩ := info_parts infoPod
  obtain ⟨n, hn⟩ : ∃ n, n0 + 1 = n := ⟨_, rfl⟩
  obtain ⟨k, hk⟩ : ∃ k, k0 + 1 = k := ⟨_, rfl⟩
  have hn1 : 1 ≤ n ∧ n ≤ 8 := by omega
  have hk1 : 1 ≤ k ∧ k ≤ 8 := by omega
  have hg : goodA n k m = true := by
    have := goodA_all ⟨n0, by omega⟩ ⟨k0, by omega⟩ ⟨m, hm3⟩
    rw [← hn, ← hk]; exact this
  have hgK : Hid (goodA n k m = true) := hg
  clear hg
  have hn0i : (n0 : Int) < 8 := by omega
  have hk0i : (k0 : Int) < 8 := by omega
  have en : (1 : Int) + n0 = n := by omega
  have ek : (1 : Int) + k0 = k := by omega
  clear hn0 hk0 hm hn hk
  go_enter Tryd.func6, Tryd.ntmps6
  go_wp2_with (first
    | (go_at_call 7; refine (known8_any w hT).mono ?_; rintro e w1 ⟨rfl, hb1⟩)
    | (go_at_call 19; refine (newL w1).mono ?_; rintro e w2 ⟨L, fp, rfl, hL2, hf2, hb2⟩)
    | (go_at_call_of 11 (Value.int .i64 nodes); refine (kn _).mono ?_; rintro e w2 ⟨rfl, rfl⟩)
    | (go_at_call_of 11 (Value.int .i64 pods); refine (kk _).mono ?_; rintro e w2 ⟨rfl, rfl⟩))
  have hbw2 := hb1.trans (hb2.mono hb1.size)
  have hfw2 : ∀ b, fp b → w.heap.size ≤ b := fun b hb => Nat.le_trans hb1.size (hf2 b hb)
  have hC0 : LedC w2 L fp (alN 0) := ⟨[], hL2, rfl⟩
  clear hb1 hb2 hL2 hf2 kn kk hn0i hk0i en ek
  go_loopw [10] (fun i wr => ∃ (j : Nat) (fp : Nat → Prop), j ≤ n ∧ i = .int .i64 j ∧ LedC wr L fp (alN j) ∧ (∀ b, fp b → w.heap.size ≤ b) ∧ Below w.heap.size w wr) (fun i _ => n - (intOf i).toNat)
  case atStart => exact ⟨0, fp, by omega, rfl, hC0, hfw2, hbw2⟩
  case round =>
    clear hC0 hfw2 hbw2
    obtain ⟨j, fp, hj, rfl, hC, hfw, hbw⟩ := hrel
    by_cases hlt : j < n
    · have hconv := conv_byte wr j (by omega)
      obtain ⟨t, ht⟩ : ∃ t : ByteArray, (⟨#[UInt8.ofNat (97 + j)]⟩ : ByteArray) = t := ⟨_, rfl⟩
      rw [ht] at hconv
      obtain ⟨s, hs⟩ : ∃ s : ByteArray, (⟨#[110]⟩ : ByteArray) ++ t = s := ⟨_, rfl⟩
      have ht1 : t.size = 1 := by rw [← ht]; rfl
      have hsd : sN j = s := by rw [← hs, ← ht]; rfl
      have kp := put_c _ L fp (alN j) (hC.later (up (Below.refl _ _) (.cells #[.int .u8 (97 + (j : Int))] 5))) false (sN j) j 9 none none 0 0 0 0 false [] [] (sN_small j) ⟨by simp, by simp⟩ ⟨by simp, by simp⟩ rfl rfl SP.none SP.none (fun x hx => by cases hx) (fun x hx => by cases hx) (by simp) (by simp) (sN_ok j (by omega) j 9 (by omega) (by decide)) (by rw [alN_len]; omega) (fun c hc => by
        obtain ⟨i, hi', e⟩ := alN_mem hc
        rw [e]
        exact sN_lt i j hi' (by omega))
      rw [hsd] at kp
      have hst : Hid (alN (j + 1) = alN j ++ [(s, (j : Int), 9, [], [], false)]) := by
        show _ = _
        rw [← hsd]; rfl
      have hbu := up hbw (.cells #[.int .u8 (97 + (j : Int))] 5)
      have i1 : (j : Int) < n := by omega
      have i2 : (j : Int) < 8 := by omega
      clear ht hsd hC
      go_wp2_with (go_at_call 20; refine kp.mono ?_; rintro e w5 ⟨rfl, fp5, hC5, hT5⟩)
      go_roundw
      case rel => exact ⟨j + 1, fp5, by omega, by go_num, by rw [hst.out]; exact hC5, hT5.low hfw hbu.size, hT5.below hfw hbu⟩
      case measure => simp [intOf]; omega
    · obtain rfl : j = n := by omega
      clear hlt hj
      obtain ⟨W1, hW1⟩ : ∃ W1, W1 = wr := ⟨_, rfl⟩
      subst hW1
      go_wp2
      go_loopw [11, 12] (fun v i wr => ∃ q : Nat, q ≤ k ∧ i = .int .i64 q ∧ wr.ownsRow W1.heap.size 48 7 v q ((podsK 0 0 true q).flatMap PodT.cells) ∧ Below W1.heap.size W1 wr) (fun _ i _ => k - (intOf i).toNat)
      case atStart => exact ⟨0, Nat.zero_le _, rfl, World.ownsRow_nil _ _ _ _, Below.refl _ _⟩
      case round =>
        obtain ⟨q, hq, rfl, hown, hbl⟩ := hrel
        have hbs := hbl.size
        by_cases hlt : q < k
        · have hconv := conv_byte wr q (by omega)
          obtain ⟨t, ht⟩ : ∃ t : ByteArray, (⟨#[UInt8.ofNat (97 + q)]⟩ : ByteArray) = t := ⟨_, rfl⟩
          rw [ht] at hconv
          obtain ⟨s, hs⟩ : ∃ s : ByteArray, (⟨#[112]⟩ : ByteArray) ++ t = s := ⟨_, rfl⟩
          have ht1 : t.size = 1 := by rw [← ht]; rfl
          have hsd : pN q = s := by rw [← hs, ← ht]; rfl
          have hst : Hid ((podsK 0 0 true (q + 1)).flatMap PodT.cells = (podsK 0 0 true q).flatMap PodT.cells ++ [.string s, .int .i64 1, .int .i64 0, .int .i64 0, .slice none 0 0, .slice none 0 0, .bool true]) := by
            show _ = _
            rw [← hsd, podsK, List.flatMap_append]; rfl
          have i1 : (q : Int) < k := by omega
          have i2 : (q : Int) < 8 := by omega
          obtain ⟨X, hX⟩ : ∃ X, (podsK 0 0 true q).flatMap PodT.cells = X := ⟨_, rfl⟩
          rw [hX] at hown hst
          clear ht hsd
          go_wp2_with (first
            | (at_builtin; refine wpList_append_own_at _ rfl _ _ 28 rfl W1.heap.size 48 i0 _ 7 96 Tryd.underlying28 hi hz0 hz1 hz2 rfl (by decide) _ _ _ rfl ((own_after hown (up (Below.refl _ _) _)).alloc _) ⟨_, 0, none⟩ 1 1 [.string s, .int .i64 1, .int .i64 0, .int .i64 0, .slice none 0 0, .slice none 0 0, .bool true] rfl rfl (cells_new _ _ _ _ (by simp)) (by intro u hu; simp only [List.mem_cons, List.not_mem_nil, or_false] at hu; rcases hu with rfl | rfl | rfl | rfl | rfl | rfl | rfl <;> rfl) (by unfold maxLen; omega) (by omega) (by simp; omega) ?_; intro v' w5 hown' hgrow hnil hat)
            | go_in)
          go_roundw
          case rel =>
            refine ⟨q + 1, by omega, by go_num, ?_, ((up (up hbl _) _).grown hgrow (by simp; omega) (fun j hj => by have := (hown.lt j hj).1; omega))⟩
            rw [hst.out]
            exact hown'
          case measure => simp [intOf]; omega
        · obtain rfl : q = k := by omega
          obtain ⟨a, c, rfl, hP⟩ := pods_own hown (podsK_len 0 0 true q) (podsK_ok (by decide) wr q)
          have hC2 := hC.later hbl
          have hb2 := hbw.trans (hbl.mono hbw.size)
          have hf2 : ∀ b, fp b → w.heap.size ≤ b := hfw
          have hT2 := hT.later hb2
          have hgo := hgK.out
          clear hown hbl hlt hbs hq hC hbw hgK hfw
          unfold goodA nodesA at hgo
          obtain ⟨X, hX⟩ : ∃ X, layR [] m ((alN j).map recOf) [] (podsK 0 0 true q) = X := ⟨_, rfl⟩
          rw [hX] at hgo
          cases X with
          | none =>
            simp only [Option.map_none, decide_eq_true_eq] at hgo
            have kp := pack_none wr L fp (alN j) hC2 hT2 1 (by decide) a q c (podsK 0 0 true q) hP (podsK_len 0 0 true q) (by omega) (by omega) m (by rw [podsK_strip]; exact hX)
            have i1 : (j : Int) < q := by omega
            clear hC2 hT2 hP hX
            go_wp2_with (first
              | (go_at_call_of 11 (Value.int .i64 mode); refine (km _).mono ?_; rintro e w2 ⟨rfl, rfl⟩)
              | (go_at_call 10; refine kp.mono ?_; rintro e w5 ⟨rfl, hb5⟩))
            go_ret
            exact ⟨rfl, hb2.trans (hb5.mono hb2.size)⟩
          | some l =>
            simp only [Option.map_some, Bool.and_eq_true, decide_eq_true_eq, beq_iff_eq, List.length_map, List.length_reverse] at hgo
            obtain ⟨⟨hle, hlen⟩, hnd⟩ := hgo
            have kp := pack_some wr L fp (alN j) hC2 hT2 1 (by decide) a q c (podsK 0 0 true q) hP (podsK_len 0 0 true q) (by omega) (by omega) m l (by rw [podsK_strip]; exact hX) q hlen
            obtain ⟨P, hPP⟩ : ∃ P, l.reverse = P := ⟨_, rfl⟩
            have hPl : P.length = q := by rw [← hPP, List.length_reverse, hlen]
            rw [hPP] at kp hnd
            have hnd : Hid _ := hnd
            have i1 : ¬ (j : Int) < q := by omega
            clear hC2 hT2 hP hX hPP hlen
            go_upto_region 19 with (first
              | (go_at_call_of 11 (Value.int .i64 mode); refine (km _).mono ?_; rintro e w2 ⟨rfl, rfl⟩)
              | (go_at_call 10; refine kp.mono ?_; rintro e w5 ⟨a5, c5, fp5, rfl, hP5, _, hT5⟩))
            have hb5 := hT5.below hf2 hb2
            clear kp km hT5 hb2 hf2 hT
            go_wp2
            go_loopw [15] (fun v wr => ∃ x : Nat, x ≤ q ∧ v = .int .i64 x ∧ Below w5.heap.size w5 wr) (fun v _ => q - (intOf v).toNat)
            case atStart => exact ⟨0, Nat.zero_le _, rfl, Below.refl _ _⟩
            case round =>
              obtain ⟨x, hx, rfl, hb6⟩ := hrel
              by_cases hlt : x < q
              · have j1 : (x : Int) < q := by omega
                go_wp2
                go_loopw [16] (fun v wr => ∃ y : Nat, y ≤ x ∧ v = .int .i64 y ∧ Below w5.heap.size w5 wr) (fun v _ => x - (intOf v).toNat)
                case atStart => exact ⟨0, Nat.zero_le _, rfl, hb6⟩
                case round =>
                  obtain ⟨y, hy, rfl, hb7⟩ := hrel
                  by_cases hlt : y < x
                  · have hP7 := hP5.later hb7
                    obtain ⟨B, O, rfl, hX⟩ := hP7.2 x _ (List.getElem?_eq_getElem (show x < P.length by omega))
                    obtain ⟨B', O', he, hY⟩ := hP7.2 y _ (List.getElem?_eq_getElem (show y < P.length by omega))
                    cases he
                    have hne := (List.pairwise_iff_getElem.1 hnd.out) y x (by simp; omega) (by simp; omega) hlt
                    simp only [List.getElem_map] at hne
                    obtain ⟨_, dx, _, _, _⟩ := hX
                    obtain ⟨_, dy, _, _, _⟩ := hY
                    have hsq := str_eq (P[x]'(by omega)).node (P[y]'(by omega)).node
                    rw [decide_eq_false (fun h => hne h.symm)] at hsq
                    generalize (P[x]'(by omega)).node = sx at dx hsq
                    generalize (P[y]'(by omega)).node = sy at dy hsq
                    have j2 : (y : Int) < x := by omega
                    have j3 : (y : Int) < q := by omega
                    clear hne hP7 hP5
                    go_upto_region 27 with fail
                    go_quiet (fail)
                    go_wp2
                    go_roundw
                    case rel => exact ⟨y + 1, by omega, by go_num, below_drewN hb7 _⟩
                    case measure => simp [intOf]; omega
                  · obtain rfl : y = x := by omega
                    clear hP5
                    go_wp2
                    go_roundw
                    case rel => exact ⟨y + 1, by omega, by go_num, hb7⟩
                    case measure => simp [intOf]; omega
              · obtain rfl : x = q := by omega
                clear hP5
                go_wp2
                go_ret
                exact ⟨rfl, hb5.trans (hb6.mono hb5.size)⟩

end Go.Proofs.YtpgchnppinbpkaaDoor
