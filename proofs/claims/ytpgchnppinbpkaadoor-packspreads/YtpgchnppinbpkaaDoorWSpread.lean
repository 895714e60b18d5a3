/- The walk of PackSpreads. -/
import Derived.Test.YtpgchnppinbpkaaDoorKS
namespace Go.Proofs.YtpgchnppinbpkaaDoor
open Go.RowKit Go.Maps
set_option linter.unusedSimpArgs false
set_option linter.unusedVariables false

/-- So many nodes, all the same, from this place on. -/
def spN : Nat → Nat → List Core
  | 0, _ => []
  | c + 1, d => (sN d, 100, 100, [], [], false) :: spN c (d + 1)
theorem spN_len : ∀ c d, (spN c d).length = c
  | 0, _ => rfl
  | c + 1, d => by simp [spN, spN_len c]
theorem spN_mem : ∀ {c d : Nat} {x : Core}, x ∈ spN c d → ∃ j, d ≤ j ∧ j < d + c ∧ x.1 = sN j
  | 0, _, x, h => by cases h
  | c + 1, d, x, h => by
    rcases List.mem_cons.1 h with rfl | h
    · exact ⟨d, by omega, by omega, rfl⟩
    · obtain ⟨j, h1, h2, e⟩ := spN_mem h
      exact ⟨j, by omega, by omega, e⟩
/-- Where the pod of this place goes. -/
def atS (n m i : Nat) : Nat := if m = 1 then 0 else i % n
def goodS (n k m : Nat) : Bool := decide ((layR [] m ((spN n 0).map recOf) [] (podsK 3 5 false k)).map (fun l => l.reverse.map (·.node)) = some ((List.range k).map fun i => sN (atS n m i)))
theorem goodS_all : ∀ n : Fin 6, ∀ k : Fin 8, ∀ m : Fin 3, goodS (n.val + 1) (k.val + 1) m.val = true := by decide +kernel

theorem convZ (W : World) (z : Int) (k : Nat) (hz : z = 97 + k) (hk : k < 100) : (convert 56 9 (.slice (some ⟨W.heap.size, 0, none⟩) 1 1)).run Tryd.prog (W.alloc (.cells #[.int .u8 z] 5)) = .ok (.string ⟨#[UInt8.ofNat (97 + k)]⟩) (W.alloc (.cells #[.int .u8 z] 5)) := by
  subst hz
  exact conv_byte W k hk
theorem convD (W : World) (z : Int) (k : Nat) (hz : z = 97 + k) (hk : k < 100) : (convert 56 9 (.slice (some ⟨W.heap.size, 0, none⟩) 1 1)).run Tryd.prog (W.alloc (.cells #[.int .u8 z] 5)).drew = .ok (.string ⟨#[UInt8.ofNat (97 + k)]⟩) (W.alloc (.cells #[.int .u8 z] 5)).drew := by
  subst hz
  exact conv_byte W.drew k hk

theorem wrapB (z : Int) (h : 0 ≤ z ∧ z < 200) : IntKind.u8.wrap (IntKind.i64.wrap z) = z := by
  have h1 : IntKind.i64.wrap z = z := by simp [IntKind.wrap, IntKind.signed, IntKind.bits]; omega
  rw [h1]
  simp [IntKind.wrap, IntKind.signed, IntKind.bits]; omega

set_option maxRecDepth 100000 in
set_option maxHeartbeats 8000000 in
theorem packSpreads_walk (nodes pods mode : Int) (w : World) (hT : Tab w) :
    Calls Tryd.prog 5 #[.int .i64 nodes, .int .i64 pods, .int .i64 mode] w fun e w' => e = .returned (.bool true) ∧ Below w.heap.size w w' := by
  obtain ⟨n0, hn0⟩ : ∃ n : Nat, nodes % 6 = n := ⟨(nodes % 6).toNat, by omega⟩
  obtain ⟨k0, hk0⟩ : ∃ k : Nat, pods % 8 = k := ⟨(pods % 8).toNat, by omega⟩
  obtain ⟨m, hm⟩ : ∃ m : Nat, mode % 3 = m := ⟨(mode % 3).toNat, by omega⟩
  have kn := fun W => within_any nodes 6 n0 (by decide) (by decide) hn0 W
  have kk := fun W => within_any pods 8 k0 (by decide) (by decide) hk0 W
  have km := fun W => within_any mode 3 m (by decide) (by decide) hm W
  have hm3 : m < 3 := by omega
  obtain ⟨i0, hi, hz0, hz1, hz2⟩ := info_parts infoPod
  obtain ⟨n, hn⟩ : ∃ n, n0 + 1 = n := ⟨_, rfl⟩
  obtain ⟨k, hk⟩ : ∃ k, k0 + 1 = k := ⟨_, rfl⟩
  have hn1 : 1 ≤ n ∧ n ≤ 6 := by omega
  have hk1 : 1 ≤ k ∧ k ≤ 8 := by omega
  have hg : goodS n k m = true := by
    have := goodS_all ⟨n0, by omega⟩ ⟨k0, by omega⟩ ⟨m, hm3⟩
    rw [← hn, ← hk]; exact this
  have hgK : Hid (goodS n k m = true) := hg
  clear hg
  have hn0i : (n0 : Int) < 6 := by omega
  have hk0i : (k0 : Int) < 8 := by omega
  have en : (1 : Int) + n0 = n := by omega
  have ek : (1 : Int) + k0 = k := by omega
  clear hn0 hk0 hm hn hk
  go_enter Tryd.func5, Tryd.ntmps5
  go_wp2_with (first
    | (go_at_call 7; refine (known8_any w hT).mono ?_; rintro e w1 ⟨rfl, hb1⟩)
    | (go_at_call 19; refine (newL w1).mono ?_; rintro e w2 ⟨L, fp, rfl, hL2, hf2, hb2⟩)
    | (go_at_call_of 11 (Value.int .i64 nodes); refine (kn _).mono ?_; rintro e w2 ⟨rfl, rfl⟩)
    | (go_at_call_of 11 (Value.int .i64 pods); refine (kk _).mono ?_; rintro e w2 ⟨rfl, rfl⟩)
    | (go_at_call_of 11 (Value.int .i64 mode); refine (km _).mono ?_; rintro e w2 ⟨rfl, rfl⟩))
  have hbw2 := hb1.trans (hb2.mono hb1.size)
  have hfw2 : ∀ b, fp b → w.heap.size ≤ b := fun b hb => Nat.le_trans hb1.size (hf2 b hb)
  have hC0 : LedC w2 L fp (spN 0 n) := ⟨[], hL2, rfl⟩
  clear hb1 hb2 hL2 hf2 kn kk km hn0i hk0i en ek
  go_loopw [11] (fun i wr => ∃ (d c : Nat) (fp : Nat → Prop), c + d = n ∧ i = .int .i64 d ∧ LedC wr L fp (spN c d) ∧ (∀ b, fp b → w.heap.size ≤ b) ∧ Below w.heap.size w wr) (fun i _ => (intOf i).toNat)
  case atStart => exact ⟨n, 0, fp, by omega, rfl, hC0, hfw2, hbw2⟩
  case round =>
    clear hC0 hfw2 hbw2
    obtain ⟨D, c, fp, hj, rfl, hC, hfw, hbw⟩ := hrel
    by_cases hlt : 0 < D
    · obtain ⟨d, hd⟩ : ∃ d, D = d + 1 := ⟨D - 1, by omega⟩
      have hconv := convZ wr (97 + (D : Int) - 1) d (by omega) (by omega)
      obtain ⟨t, ht⟩ : ∃ t : ByteArray, (⟨#[UInt8.ofNat (97 + d)]⟩ : ByteArray) = t := ⟨_, rfl⟩
      rw [ht] at hconv
      obtain ⟨s, hs⟩ : ∃ s : ByteArray, (⟨#[110]⟩ : ByteArray) ++ t = s := ⟨_, rfl⟩
      have ht1 : t.size = 1 := by rw [← ht]; rfl
      have hsd : sN d = s := by rw [← hs, ← ht]; rfl
      have kp := put_c _ L fp (spN c D) (hC.later (up (Below.refl _ _) (.cells #[.int .u8 (97 + (D : Int) - 1)] 5))) true (sN d) 100 100 none none 0 0 0 0 false [] [] (sN_small d) ⟨by simp, by simp⟩ ⟨by simp, by simp⟩ rfl rfl SP.none SP.none (fun x hx => by cases hx) (fun x hx => by cases hx) (by simp) (by simp) (sN_ok d (by omega) 100 100 (by omega) (by decide)) (by rw [spN_len]; omega) (fun x hx => by
        obtain ⟨i, hi', hi2, e⟩ := spN_mem hx
        rw [e]
        exact sN_lt d i (by omega) (by omega))
      rw [hsd] at kp
      have hst : Hid (spN (c + 1) d = (s, 100, 100, [], [], false) :: spN c D) := by
        show _ = _
        rw [← hsd, hd]; rfl
      have hbu := up hbw (.cells #[.int .u8 (97 + (D : Int) - 1)] 5)
      have i1 : (0 : Int) < D := by omega
      have i2 : (D : Int) < 8 := by omega
      have hd' : Hid (D = d + 1) := hd
      clear ht hsd hC hd
      go_wp2_with (go_at_call 20; refine kp.mono ?_; rintro e w5 ⟨rfl, fp5, hC5, hT5⟩)
      go_roundw
      case rel => exact ⟨d, c + 1, fp5, by have := hd'.out; omega, by have := hd'.out; subst this; go_num, by rw [hst.out]; exact hC5, hT5.low hfw hbu.size, hT5.below hfw hbu⟩
      case measure => have := hd'.out; simp [intOf]; omega
    · have hD : D = 0 := by omega
      obtain rfl : c = n := by omega
      rw [hD] at hC
      have iD : ¬ (0 : Int) < D := by omega
      clear hlt hj hD
      obtain ⟨W1, hW1⟩ : ∃ W1, W1 = wr := ⟨_, rfl⟩
      subst hW1
      go_wp2
      clear iD
      go_loopw [12, 13] (fun v i wr => ∃ q : Nat, q ≤ k ∧ i = .int .i64 q ∧ wr.ownsRow W1.heap.size 48 7 v q ((podsK 3 5 false q).flatMap PodT.cells) ∧ Below W1.heap.size W1 wr) (fun _ i _ => k - (intOf i).toNat)
      case atStart => exact ⟨0, Nat.zero_le _, rfl, World.ownsRow_nil _ _ _ _, Below.refl _ _⟩
      case round =>
        obtain ⟨q, hq, rfl, hown, hbl⟩ := hrel
        have hbs := hbl.size
        by_cases hlt : q < k
        · have hconv := conv_byte wr q (by omega)
          obtain ⟨t, ht⟩ : ∃ t : ByteArray, (⟨#[UInt8.ofNat (97 + q)]⟩ : ByteArray) = t := ⟨_, rfl⟩
          rw [ht] at hconv
          obtain ⟨s, hs⟩ : ∃ s : ByteArray, (⟨#[112]⟩ : ByteArray) ++ t = s := ⟨_, rfl⟩
          have ht1 : t.size = 1 := by rw [← ht]; rfl
          have hsd : pN q = s := by rw [← hs, ← ht]; rfl
          have hst : Hid ((podsK 3 5 false (q + 1)).flatMap PodT.cells = (podsK 3 5 false q).flatMap PodT.cells ++ [.string s, .int .i64 1, .int .i64 3, .int .i64 5, .slice none 0 0, .slice none 0 0, .bool false]) := by
            show _ = _
            rw [← hsd, podsK, List.flatMap_append]; rfl
          have i1 : (q : Int) < k := by omega
          have i2 : (q : Int) < 8 := by omega
          obtain ⟨X, hX⟩ : ∃ X, (podsK 3 5 false q).flatMap PodT.cells = X := ⟨_, rfl⟩
          rw [hX] at hown hst
          clear ht hsd
          go_wp2_with (first
            | (at_builtin; refine wpList_append_own_at _ rfl _ _ 28 rfl W1.heap.size 48 i0 _ 7 96 Tryd.underlying28 hi hz0 hz1 hz2 rfl (by decide) _ _ _ rfl ((own_after hown (up (Below.refl _ _) _)).alloc _) ⟨_, 0, none⟩ 1 1 [.string s, .int .i64 1, .int .i64 3, .int .i64 5, .slice none 0 0, .slice none 0 0, .bool false] rfl rfl (cells_new _ _ _ _ (by simp)) (by intro u hu; simp only [List.mem_cons, List.not_mem_nil, or_false] at hu; rcases hu with rfl | rfl | rfl | rfl | rfl | rfl | rfl <;> rfl) (by unfold maxLen; omega) (by omega) (by simp; omega) ?_; intro v' w5 hown' hgrow hnil hat)
            | go_in)
          go_roundw
          case rel =>
            refine ⟨q + 1, by omega, by go_num, ?_, ((up (up hbl _) _).grown hgrow (by simp; omega) (fun j hj => by have := (hown.lt j hj).1; omega))⟩
            rw [hst.out]
            exact hown'
          case measure => simp [intOf]; omega
        · obtain rfl : q = k := by omega
          obtain ⟨a, c1, rfl, hP⟩ := pods_own hown (podsK_len 3 5 false q) (podsK_ok (by decide) wr q)
          have hC2 := hC.later hbl
          have hb2 := hbw.trans (hbl.mono hbw.size)
          have hf2 : ∀ b, fp b → w.heap.size ≤ b := hfw
          have hT2 := hT.later hb2
          have hgo := hgK.out
          clear hown hbl hlt hbs hq hC hbw hgK hfw
          unfold goodS at hgo
          have hgo := of_decide_eq_true hgo
          obtain ⟨X, hX⟩ : ∃ X, layR [] m ((spN c 0).map recOf) [] (podsK 3 5 false q) = X := ⟨_, rfl⟩
          rw [hX] at hgo
          cases X with
          | none => cases hgo
          | some l =>
            simp only [Option.map_some, Option.some.injEq] at hgo
            have hlen : l.length = q := by have := congrArg List.length hgo; simpa using this
            have kp := pack_some wr L fp (spN c 0) hC2 hT2 1 (by decide) a q c1 (podsK 3 5 false q) hP (podsK_len 3 5 false q) (by omega) (by omega) m l (by rw [podsK_strip]; exact hX) q hlen
            obtain ⟨P, hPP⟩ : ∃ P, l.reverse = P := ⟨_, rfl⟩
            have hPl : P.length = q := by rw [← hPP, List.length_reverse, hlen]
            rw [hPP] at kp hgo
            have hgo : Hid _ := hgo
            clear hC2 hT2 hP hX hPP hlen
            go_upto_region 18 with (go_at_call 10; refine kp.mono ?_; rintro e w5 ⟨a5, c5, fp5, rfl, hP5, _, hT5⟩)
            have hb5 := hT5.below hf2 hb2
            clear kp hT5 hb2 hf2 hT
            go_wp2
            by_cases hm1 : m = 1
            · have hmI : (m : Int) = 1 := by omega
              rw [hmI]
              clear hmI
              go_loopw [16] (fun v wr => ∃ x : Nat, x ≤ q ∧ v = .int .i64 x ∧ Below w5.heap.size w5 wr) (fun v _ => q - (intOf v).toNat)
              case atStart => exact ⟨0, Nat.zero_le _, rfl, Below.refl _ _⟩
              case round =>
                obtain ⟨x, hx, rfl, hb6⟩ := hrel
                by_cases hlt : x < q
                · have j1 : (x : Int) < q := by omega
                  obtain ⟨B, O, rfl, hX⟩ := (hP5.later hb6).2 x _ (List.getElem?_eq_getElem (show x < P.length by omega))
                  obtain ⟨_, dx, _, _, _⟩ := hX
                  have hnd : (P[x]'(by omega)).node = sN (atS c m x) := by
                    have h1 : (P.map (·.node))[x]? = some (P[x]'(by omega)).node := by rw [List.getElem?_map, List.getElem?_eq_getElem (show x < P.length by omega)]; rfl
                    rw [hgo.out, List.getElem?_map, List.getElem?_range hlt] at h1
                    exact (Option.some.inj h1).symm
                  rw [hnd] at dx
                  have dxa := fun o => cell_alloc dx o
                  obtain ⟨r, hr⟩ : ∃ r : Nat, x % c = r := ⟨_, rfl⟩
                  have hrc : r < c := by rw [← hr]; exact Nat.mod_lt _ (by omega)
                  have hrt : Int.tmod (x : Int) c = r := by rw [← hr]; exact (Int.ofNat_tmod x c).symm
                  have c0 : ¬ (c : Int) = 0 := by omega
                  have r8 : (r : Int) < 8 := by omega
                  have hat : atS c m x = 0 := by unfold atS; rw [if_pos hm1]
                  rw [hat] at dx dxa
                  have hconv := convD wr 97 0 (by omega) (by omega)
                  have hw := wrapB 97 (by omega)
                  obtain ⟨t, ht⟩ : ∃ t : ByteArray, (⟨#[UInt8.ofNat (97 + 0)]⟩ : ByteArray) = t := ⟨_, rfl⟩
                  rw [ht] at hconv
                  obtain ⟨s, hs⟩ : ∃ s : ByteArray, (⟨#[110]⟩ : ByteArray) ++ t = s := ⟨_, rfl⟩
                  have ht1 : t.size = 1 := by rw [← ht]; rfl
                  have hsd : sN 0 = s := by rw [← hs, ← ht]; rfl
                  rw [hsd] at dx dxa
                  have hsq : (s.toList == s.toList) = true := by simp
                  clear ht hsd hat hnd hr hrc hP5
                  go_upto_region 26 with fail
                  go_region_with (fail)
                  all_goals
                    go_wp2
                    go_roundw
                    case rel => exact ⟨x + 1, by omega, by go_num, Below.drew (up hb6 _)⟩
                    case measure => simp [intOf]; omega
                · obtain rfl : x = q := by omega
                  clear hP5
                  go_wp2
                  go_ret
                  exact ⟨rfl, hb5.trans (hb6.mono hb5.size)⟩
            · have hmI : ¬ (m : Int) = 1 := by omega
              go_loopw [16] (fun v wr => ∃ x : Nat, x ≤ q ∧ v = .int .i64 x ∧ Below w5.heap.size w5 wr) (fun v _ => q - (intOf v).toNat)
              case atStart => exact ⟨0, Nat.zero_le _, rfl, Below.refl _ _⟩
              case round =>
                obtain ⟨x, hx, rfl, hb6⟩ := hrel
                by_cases hlt : x < q
                · have j1 : (x : Int) < q := by omega
                  obtain ⟨B, O, rfl, hX⟩ := (hP5.later hb6).2 x _ (List.getElem?_eq_getElem (show x < P.length by omega))
                  obtain ⟨_, dx, _, _, _⟩ := hX
                  have hnd : (P[x]'(by omega)).node = sN (atS c m x) := by
                    have h1 : (P.map (·.node))[x]? = some (P[x]'(by omega)).node := by rw [List.getElem?_map, List.getElem?_eq_getElem (show x < P.length by omega)]; rfl
                    rw [hgo.out, List.getElem?_map, List.getElem?_range hlt] at h1
                    exact (Option.some.inj h1).symm
                  rw [hnd] at dx
                  have dxa := fun o => cell_alloc dx o
                  obtain ⟨r, hr⟩ : ∃ r : Nat, x % c = r := ⟨_, rfl⟩
                  have hrc : r < c := by rw [← hr]; exact Nat.mod_lt _ (by omega)
                  have hrt : Int.tmod (x : Int) c = r := by rw [← hr]; exact (Int.ofNat_tmod x c).symm
                  have c0 : ¬ (c : Int) = 0 := by omega
                  have r8 : (r : Int) < 8 := by omega
                  have hat : atS c m x = r := by unfold atS; rw [if_neg hm1, hr]
                  rw [hat] at dx dxa
                  have hconv := convD wr (97 + (r : Int)) r (by omega) (by omega)
                  have hw := wrapB (97 + (r : Int)) (by omega)
                  obtain ⟨t, ht⟩ : ∃ t : ByteArray, (⟨#[UInt8.ofNat (97 + r)]⟩ : ByteArray) = t := ⟨_, rfl⟩
                  rw [ht] at hconv
                  obtain ⟨s, hs⟩ : ∃ s : ByteArray, (⟨#[110]⟩ : ByteArray) ++ t = s := ⟨_, rfl⟩
                  have ht1 : t.size = 1 := by rw [← ht]; rfl
                  have hsd : sN r = s := by rw [← hs, ← ht]; rfl
                  rw [hsd] at dx dxa
                  have hsq : (s.toList == s.toList) = true := by simp
                  clear ht hsd hat hnd hr hrc hP5
                  go_upto_region 26 with fail
                  go_region_with (fail)
                  all_goals
                    go_wp2
                    go_roundw
                    case rel => exact ⟨x + 1, by omega, by go_num, Below.drew (up hb6 _)⟩
                    case measure => simp [intOf]; omega
                · obtain rfl : x = q := by omega
                  clear hP5
                  go_wp2
                  go_ret
                  exact ⟨rfl, hb5.trans (hb6.mono hb5.size)⟩

end Go.Proofs.YtpgchnppinbpkaaDoor
