/- The walk of SpecOwn. -/
import Derived.Test.YtgcicillmljglaaGO
import Derived.Test.YtgcicillmljglaaSP
import Derived.Test.YtgcicillmljglaaWK
namespace Go.Proofs.Ytgcicillmljglaa
open Go.RowKit Go.Maps
set_option linter.unusedSimpArgs false
set_option linter.unusedVariables false

theorem cfName (args : Array Value) (w : World) : (callFunc 31 args).run Try.prog w = .ok (.enter 31 args) w := by kernel_rfl

def ownF15 (g n cap ii m pc b9 k : Nat) (bi : Int) (nm : ByteArray) : Nat → Value → World → Prop
  | 0, z, _ => z = .slice (some ⟨g, 0, none⟩) n cap
  | 1, z, _ => z = .int .i64 ii
  | 2, z, _ => z = .pointer (some ⟨g, ii * 7, none⟩)
  | 3, z, _ => z = .pointer (some ⟨g, ii * 7 + 4, none⟩)
  | 4, z, _ => z = .slice (some ⟨b9, 0, none⟩) m pc
  | 5, z, _ => z = .int .i64 k
  | 6, z, _ => z = .int .i64 bi
  | 7, z, _ => z = .string nm
  | 8, z, _ => z = .pointer (some ⟨b9, k, none⟩)
  | _, _, _ => True

def ownF19 (g n cap ii m pc b9 k : Nat) (bi : Int) (nm : ByteArray) : Nat → Value → World → Prop
  | 0, z, _ => z = .slice (some ⟨g, 0, none⟩) n cap
  | 1, z, _ => z = .int .i64 ii
  | 2, z, _ => z = .pointer (some ⟨g, ii * 7, none⟩)
  | 3, z, _ => z = .pointer (some ⟨g, ii * 7 + 5, none⟩)
  | 4, z, _ => z = .slice (some ⟨b9, 0, none⟩) m pc
  | 5, z, _ => z = .int .i64 k
  | 6, z, _ => z = .int .i64 bi
  | 7, z, _ => z = .string nm
  | 8, z, _ => z = .pointer (some ⟨b9, k, none⟩)
  | _, _, _ => True

theorem lGang_pods (id : Int) (a5 : Option Addr) (len5 cap5 : Nat) (z5 : List Int) (W : World) (hrow : HasRow W a5 len5 z5) :
    Calls Try.prog 22 #[.int .i64 id, .slice a5 len5 cap5, .int .i64 2] W fun e w' => ∃ a n c l, e = .returned (.agg #[.int .i64 (1 + id % 999999), .slice a n c]) ∧ l.length = n ∧ n ≤ c ∧ n ≤ 8 ∧ l.map PodT.data = gangOf id 2 z5 len5 ∧ gangE (1 + id % 999999) l 2 = 0 ∧ Pods w' a l ∧ Below W.heap.size W w' := by
  refine (lGang_is id 2 a5 len5 cap5 z5 W (by decide) (by decide) hrow).mono ?_
  rintro e w' ⟨v, l, rfl, ho, hd, hb⟩
  obtain ⟨hE, h1, h8, -⟩ := gang_good (by decide : (0 : Int) < 2) id z5 len5 hd
  obtain ⟨a, c, rfl, hc, hp⟩ := ho.pods (by omega)
  exact ⟨a, l.length, c, l, rfl, rfl, hc, h8, hd, hE, hp, hb⟩

set_option maxRecDepth 100000 in
set_option maxHeartbeats 8000000 in
theorem specOwn_walk (id : Int) (a0 : Option Addr) (len0 cap0 : Nat) (z0 : List Int) (bi : Int) (w : World) (w0 : IsRow .i64 w a0 len0 cap0 z0) :
    Calls Try.prog 8 #[.int .i64 id, .slice a0 len0 cap0, .int .i64 bi] w fun e w' => e = .returned (.bool true) ∧ Below w.heap.size w w' := by
  replace w0 := w0.has
  obtain ⟨nm, hnm⟩ : ∃ s, nameAt bi = s := ⟨_, rfl⟩
  have kn := fun W (hb : Below W.heap.size W W) => lName_is bi nm W W hb hnm
  have kg := fun W (hB : Below w.heap.size w W) => lGang_pods id a0 len0 cap0 z0 W (w0.later hB)
  obtain ⟨gid, hgid⟩ : ∃ x, 1 + id % 999999 = x := ⟨_, rfl⟩
  obtain ⟨D, hD⟩ : ∃ x, gangOf id 2 z0 len0 = x := ⟨_, rfl⟩
  rw [hgid, hD] at kg
  clear hnm w0 hgid hD
  go_enter Try.func8, Try.ntmps8
  go_upto_region 4 with (first
    | (go_at_call 9; refine (known_on _ _ (Below.refl _ _)).mono ?_; rintro e w1 ⟨rfl, hW1⟩)
    | (go_at_call 22; refine (kg _ hW2).mono ?_; rintro e w3 ⟨a2, n2, c2, l2, rfl, hl2, hc2, h82, hd2, hE2, hP2, hb3⟩
       have hW3 := fin hb3 hW2
       have hP1 := hP1.later hb3)
    | (go_at_call 22; refine (kg _ hW1).mono ?_; rintro e w2 ⟨a1, n1, c1, l1, rfl, hl1, hc1, h81, hd1, hE1, hP1, hb2⟩
       have hW2 := fin hb2 hW1))
  have G4 := (Box.new w3 #[.int .i64 gid, .slice a1 n1 c1] 47 rfl).up (.cells #[.int .i64 gid, .slice a2 n2 c2] 47)
  have H4 : Box ((w3.alloc (.cells #[.int .i64 gid, .slice a1 n1 c1] 47)).alloc (.cells #[.int .i64 gid, .slice a2 n2 c2] 47)) (w3.heap.size + 1) #[.int .i64 gid, .slice a2 n2 c2] 47 := Box.new _ _ _ (by simp)
  have hW4 := up (up hW3 (.cells #[.int .i64 gid, .slice a1 n1 c1] 47)) (.cells #[.int .i64 gid, .slice a2 n2 c2] 47)
  have h34 : Below w3.heap.size w3 ((w3.alloc (.cells #[.int .i64 gid, .slice a1 n1 c1] 47)).alloc (.cells #[.int .i64 gid, .slice a2 n2 c2] 47)) := up (up (Below.refl _ _) _) _
  have hP14 := hP1.later h34
  have hP24 := hP2.later h34
  clear hW1 hW2 hb2 hb3 kg hP1 hP2 h34
  generalize (w3.alloc (.cells #[.int .i64 gid, .slice a1 n1 c1] 47)).alloc (.cells #[.int .i64 gid, .slice a2 n2 c2] 47) = W4 at *
  obtain ⟨G, hG⟩ : ∃ x, w3.heap.size = x := ⟨_, rfl⟩
  simp only [hG] at G4 H4 ⊢
  clear hG hW3
  go_wp2
  go_loopw [9] (fun i wr => ∃ k : Nat, 1 ≤ k ∧ k ≤ 3 ∧ i = .int .i64 k ∧ Below W4.heap.size W4 wr) (fun i _ => 3 - (intOf i).toNat)
  case atStart => exact ⟨1, by omega, by omega, rfl, Below.refl _ _⟩
  case round =>
    obtain ⟨s, hs1, hs3, rfl, hb4⟩ := hrel
    by_cases hlt : s ≤ 2
    · obtain ⟨gc0, gc1⟩ := (G4.later hb4).cells2
      have ks := slice_nw gid s a1 c1 n1 l1 wr hl1 (hP14.later hb4)
      have hs2 : (s : Int) ≤ 2 := by omega
      obtain ⟨B, hB⟩ : ∃ x, wr.heap.size = x := ⟨_, rfl⟩
      have hB4 : W4.heap.size ≤ B := by rw [← hB]; exact hb4.size
      rw [hB] at ks
      go_wp2_with (first
        | (go_at_call 28; refine ks.mono ?_; rintro e w5 ⟨v, l', rfl, hr, hd5, hN5, hO5, hb5⟩
           have hb5' := hb4.trans (hb5.mono (by rw [← hB]; exact hb4.size))
           have hl5 : l'.length ≤ 8 := by have := congrArg List.length hd5; simp only [List.length_map] at this; rw [this]; exact Nat.le_trans (List.length_filter_le _ _) (by omega)
           obtain ⟨n, hn⟩ : ∃ x, l'.length = x := ⟨_, rfl⟩
           rw [hn] at hr hl5))
      clear gc0 gc1 ks
      rcases hr.2 with ⟨rfl, h0⟩ | ⟨g, cap, cur, rfl, hBg, hh, hncap, hrest⟩
      · subst h0
        go_loopw [11] (fun i wk => i = .int .i64 0 ∧ Below W4.heap.size W4 wk) (fun _ _ => 0)
        case atStart => exact ⟨rfl, hb5'⟩
        case round =>
          obtain ⟨rfl, hb6⟩ := hrel
          go_wp2
          go_roundw
          case rel => exact ⟨s + 1, by omega, by omega, by go_num, hb6⟩
          case measure => simp [intOf]; omega
      · have hWk := wk_of hr hBg hN5 hO5
        have hglt : g < w5.heap.size := (Array.getElem?_eq_some_iff.1 hh).1
        have hn1 : n ≤ 1000 := by omega
        clear hr hh hrest hncap hN5 hO5 hd5 hb5
        go_loopw [11] (fun i wk => ∃ j : Nat, j ≤ n ∧ i = .int .i64 j ∧ Wk B g wk l' ∧ Below W4.heap.size W4 wk ∧ g < wk.heap.size) (fun i _ => n - (intOf i).toNat)
        case atStart => exact ⟨0, by omega, rfl, hWk, hb5', hglt⟩
        case round =>
          clear hWk hglt hb5'
          obtain ⟨ii, hi, rfl, hWk, hbk, hglt⟩ := hrel
          by_cases hilt : ii < n
          · have hp : l'[ii]? = some l'[ii] := List.getElem?_eq_getElem (by omega)
            obtain ⟨p, hpe⟩ : ∃ p, l'[ii] = p := ⟨_, rfl⟩
            rw [hpe] at hp
            clear hpe
            obtain ⟨pnm, psh, pcpu, pmem, pa, pc, ps, ba, bc, bs, al⟩ := p
            obtain ⟨s0, hs0⟩ := hWk.name ii _ hp
            have fz0 := hWk.free (ii * 7)
            have hlen := hWk.len ii _ hp
            simp only at hlen
            obtain ⟨hlen1, hlen2⟩ := hlen
            have hin : (ii : Int) < n := by omega
            have hW6 := hWk.set (t := ⟨#[113]⟩) hs0
            have hB6 : Below W4.heap.size W4 (wr.setCell ⟨g, ii * 7, none⟩ (.string ⟨#[113]⟩)) := hbk.setCell (p := ⟨g, ii * 7, none⟩) (by simp; omega) _
            have hg6 : g < (wr.setCell ⟨g, ii * 7, none⟩ (.string ⟨#[113]⟩)).heap.size := by simp; omega
            go_wp2
            generalize wr.setCell ⟨g, ii * 7, none⟩ (.string ⟨#[113]⟩) = w6 at *
            clear hs0 fz0 hWk hbk hglt
            obtain ⟨m, hm⟩ : ∃ x, ps.length = x := ⟨_, rfl⟩
            go_loopw [12] (fun j wk => ∃ k : Nat, k ≤ m ∧ j = .int .i64 k ∧ Wk B g wk l' ∧ Below W4.heap.size W4 wk ∧ g < wk.heap.size) (fun j _ => m - (intOf j).toNat)
            case atStart => exact ⟨0, by omega, rfl, hW6, hB6, hg6⟩
            case round =>
              clear hW6 hB6 hg6
              obtain ⟨k, hk, rfl, hWk, hbk, hglt⟩ := hrel
              have cr0 := hWk.picks ii _ hp
              simp only [hm] at cr0
              by_cases hkm0 : k < m
              · obtain ⟨b9, hpa, -, -, -, -⟩ := (hWk.soft1 ii _ hp) k (by simp only; omega)
                simp only at hpa
                subst hpa
                have hkm : (k : Int) < m := by omega
                go_upto_region 15 with fail
                clear cr0
                refine wp_region_rely_last 9 (fun w1 => Below wr.heap.size wr w1) (fun w1 w2 => Below w1.heap.size w1 w2) (ownF15 g n cap ii m pc b9 k bi nm) (by kernel_rfl) (by kernel_rfl) (Below.refl _ _).drew ?keep ?step ?rest
                case keep =>
                  intro i v w1 w2 hS hF
                  unfold ownF15 at *
                  split at hF <;> try exact hF
                case step =>
                  intro i o d hi ho hd b w1 hR hold hdep
                  have o2 : sl b 2 = .int .i64 bi := hold 2 (by kernel_rfl)
                  have o10 : sl b 10 = .slice (some ⟨g, 0, none⟩) n cap := hold 10 (by kernel_rfl)
                  have o11 : sl b 11 = .int .i64 ii := hold 11 (by kernel_rfl)
                  have o12 : sl b 12 = .int .i64 k := hold 12 (by kernel_rfl)
                  have hb0 := Below.refl w1.heap.size w1
                  have hW9 := hWk.later hglt hR
                  have cr := hW9.picks ii _ hp
                  simp only [hm] at cr
                  rcases i with _ | _ | _ | _ | _ | _ | _ | _ | _ | i
                  all_goals try (cases ho; cases hd)
                  · exact ok_val' rfl rfl (want_none rfl b) (by simp [go_sem, o10]) hR hb0 rfl
                  · exact ok_val' rfl rfl (want_none rfl b) (by simp [go_sem, o11]) hR hb0 rfl
                  · have f49 : sl b 49 = .slice (some ⟨g, 0, none⟩) n cap := hdep 0 _ _ rfl rfl (by kernel_rfl)
                    have f50 : sl b 50 = .int .i64 ii := hdep 1 _ _ rfl rfl (by kernel_rfl)
                    exact ok_val' rfl rfl (want_none rfl b) (by simp [go_sem, f49, f50, hin]) hR hb0 rfl
                  · have f51 : sl b 51 = .pointer (some ⟨g, ii * 7, none⟩) := hdep 2 _ _ rfl rfl (by kernel_rfl)
                    exact ok_val' rfl rfl (want_none rfl b) (by simp [go_sem, f51]) hR hb0 rfl
                  · have f52 : sl b 52 = .pointer (some ⟨g, ii * 7 + 4, none⟩) := hdep 3 _ _ rfl rfl (by kernel_rfl)
                    exact ok_val' rfl rfl (want_none rfl b) (by simp [go_sem, f52, cr]) hR hb0 rfl
                  · exact ok_val' rfl rfl (want_none rfl b) (by simp [go_sem, o12]) hR hb0 rfl
                  · exact ok_val' rfl rfl (want_none rfl b) (by simp [go_sem, o2]) hR hb0 rfl
                  · have f55 : sl b 55 = .int .i64 bi := hdep 6 _ _ rfl rfl (by kernel_rfl)
                    refine ok_enter' rfl rfl (want_none rfl b) ?_ ((kn w1 (Below.refl _ _)).mono ?_)
                    · simp [go_sem, f55, cfName]
                    rintro e w2 ⟨rfl, hb2⟩
                    exact ⟨_, rfl, hR.trans (hb2.mono hR.size), hb2, rfl⟩
                  · have f53 : sl b 53 = .slice (some ⟨b9, 0, none⟩) m pc := hdep 4 _ _ rfl rfl (by kernel_rfl)
                    have f54 : sl b 54 = .int .i64 k := hdep 5 _ _ rfl rfl (by kernel_rfl)
                    exact ok_val' rfl rfl (want_none rfl b) (by simp [go_sem, f53, f54, hkm]) hR hb0 rfl
                  · omega
                case rest =>
                  intro o b V9 ho hR hsz hdf hold hF
                  cases ho
                  have f2 : sl b 2 = .int .i64 bi := hold 2 (by kernel_rfl)
                  have f10 : sl b 10 = .slice (some ⟨g, 0, none⟩) n cap := hold 10 (by kernel_rfl)
                  have f11 : sl b 11 = .int .i64 ii := hold 11 (by kernel_rfl)
                  have f12 : sl b 12 = .int .i64 k := hold 12 (by kernel_rfl)
                  have f56 : sl b 56 = .string nm := hF 7 _ _ (by decide) rfl rfl
                  have f57 : sl b 57 = .pointer (some ⟨b9, k, none⟩) := hF 8 _ _ (by decide) rfl rfl
                  have f0 := hold 0 (by kernel_rfl)
                  have f1 := hold 1 (by kernel_rfl)
                  have f3 := hold 3 (by kernel_rfl)
                  have f4 := hold 4 (by kernel_rfl)
                  have f5 := hold 5 (by kernel_rfl)
                  have f6 := hold 6 (by kernel_rfl)
                  have f7 := hold 7 (by kernel_rfl)
                  have f8 := hold 8 (by kernel_rfl)
                  have f9 := hold 9 (by kernel_rfl)
                  have f13 := hold 13 (by kernel_rfl)
                  have f14 := hold 14 (by kernel_rfl)
                  have f15 := hold 15 (by kernel_rfl)
                  have f16 := hold 16 (by kernel_rfl)
                  have f17 := hold 17 (by kernel_rfl)
                  have f18 := hold 18 (by kernel_rfl)
                  have f19 := hold 19 (by kernel_rfl)
                  have f20 := hold 20 (by kernel_rfl)
                  have f21 := hold 21 (by kernel_rfl)
                  have f22 := hold 22 (by kernel_rfl)
                  have f23 := hold 23 (by kernel_rfl)
                  have f24 := hold 24 (by kernel_rfl)
                  have f25 := hold 25 (by kernel_rfl)
                  have f26 := hold 26 (by kernel_rfl)
                  have f27 := hold 27 (by kernel_rfl)
                  have f28 := hold 28 (by kernel_rfl)
                  have f29 := hold 29 (by kernel_rfl)
                  have f30 := hold 30 (by kernel_rfl)
                  have f31 := hold 31 (by kernel_rfl)
                  have f32 := hold 32 (by kernel_rfl)
                  have f33 := hold 33 (by kernel_rfl)
                  have f34 := hold 34 (by kernel_rfl)
                  have f35 := hold 35 (by kernel_rfl)
                  have f36 := hold 36 (by kernel_rfl)
                  have f37 := hold 37 (by kernel_rfl)
                  have f38 := hold 38 (by kernel_rfl)
                  have f39 := hold 39 (by kernel_rfl)
                  have f40 := hold 40 (by kernel_rfl)
                  have f41 := hold 41 (by kernel_rfl)
                  have f42 := hold 42 (by kernel_rfl)
                  have f43 := hold 43 (by kernel_rfl)
                  have f44 := hold 44 (by kernel_rfl)
                  have f45 := hold 45 (by kernel_rfl)
                  have f46 := hold 46 (by kernel_rfl)
                  have f47 := hold 47 (by kernel_rfl)
                  have f48 := hold 48 (by kernel_rfl)
                  have f58 := hold 58 (by kernel_rfl)
                  have f59 := hold 59 (by kernel_rfl)
                  have f60 := hold 60 (by kernel_rfl)
                  have f61 := hold 61 (by kernel_rfl)
                  have f62 := hold 62 (by kernel_rfl)
                  have f63 := hold 63 (by kernel_rfl)
                  have f64 := hold 64 (by kernel_rfl)
                  have f65 := hold 65 (by kernel_rfl)
                  have f66 := hold 66 (by kernel_rfl)
                  have f67 := hold 67 (by kernel_rfl)
                  have f68 := hold 68 (by kernel_rfl)
                  have f69 := hold 69 (by kernel_rfl)
                  have f70 := hold 70 (by kernel_rfl)
                  have f71 := hold 71 (by kernel_rfl)
                  have f72 := hold 72 (by kernel_rfl)
                  have f73 := hold 73 (by kernel_rfl)
                  have f74 := hold 74 (by kernel_rfl)
                  have f75 := hold 75 (by kernel_rfl)
                  have f76 := hold 76 (by kernel_rfl)
                  have f77 := hold 77 (by kernel_rfl)
                  have f78 := hold 78 (by kernel_rfl)
                  have f79 := hold 79 (by kernel_rfl)
                  have f80 := hold 80 (by kernel_rfl)
                  have f81 := hold 81 (by kernel_rfl)
                  have f82 := hold 82 (by kernel_rfl)
                  have f83 := hold 83 (by kernel_rfl)
                  have f84 := hold 84 (by kernel_rfl)
                  have f85 := hold 85 (by kernel_rfl)
                  have f86 := hold 86 (by kernel_rfl)
                  have hB : b = _ := act_list b (show b.tmps.size = 87 from hsz) hdf
                  have hW9 := hWk.later hglt hR
                  obtain ⟨b8, hb8, hbg, hbB, ⟨s9, hs9⟩, hfz⟩ := (hW9.soft1 ii _ hp) k (by simp only; omega)
                  obtain rfl : b9 = b8 := by simpa using hb8
                  have fzk := hfz k
                  refine ok_skip (w2 := V9.setCell ⟨b9, k, none⟩ (.string nm)) rfl rfl rfl (by simp [go_sem, f56, f57, hs9, fzk] <;> rfl) ?_
                  have hW10 := hW9.set (t := nm) hs9
                  have hB10 : Below W4.heap.size W4 (V9.setCell ⟨b9, k, none⟩ (.string nm)) := (fin hR hbk).setCell (p := ⟨b9, k, none⟩) (by simp; omega) _
                  rw [hB]
                  simp only [List.range, List.range.loop, List.map_cons, List.map_nil, f0, f1, f2, f3, f4, f5, f6, f7, f8, f9, f10, f11, f12, f13, f14, f15, f16, f17, f18, f19, f20, f21, f22, f23, f24, f25, f26, f27, f28, f29, f30, f31, f32, f33, f34, f35, f36, f37, f38, f39, f40, f41, f42, f43, f44, f45, f46, f47, f48, f56, f57, f58, f59, f60, f61, f62, f63, f64, f65, f66, f67, f68, f69, f70, f71, f72, f73, f74, f75, f76, f77, f78, f79, f80, f81, f82, f83, f84, f85, f86]
                  generalize sl b 49 = v49, sl b 50 = v50, sl b 51 = v51, sl b 52 = v52, sl b 53 = v53, sl b 54 = v54, sl b 55 = v55
                  simp only [sl, List.getElem?_toArray, List.getElem?_cons_succ, List.getElem?_cons_zero, Option.getD_some]
                  clear hB hold hsz hdf hF f0 f1 f2 f3 f4 f5 f6 f7 f8 f9 f10 f11 f12 f13 f14 f15 f16 f17 f18 f19 f20 f21 f22 f23 f24 f25 f26 f27 f28 f29 f30 f31 f32 f33 f34 f35 f36 f37 f38 f39 f40 f41 f42 f43 f44 f45 f46 f47 f48 f56 f57 f58 f59 f60 f61 f62 f63 f64 f65 f66 f67 f68 f69 f70 f71 f72 f73 f74 f75 f76 f77 f78 f79 f80 f81 f82 f83 f84 f85 f86
                  have hgl10 : g < (V9.setCell ⟨b9, k, none⟩ (.string nm)).heap.size := by have := hR.size; simp; omega
                  generalize V9.setCell ⟨b9, k, none⟩ (.string nm) = V10 at *
                  clear hs9 hfz fzk hW9
                  go_wp2
                  go_roundw
                  case rel => exact ⟨k + 1, by omega, by go_num, hW10, hB10, hgl10⟩
                  case measure => simp [intOf]; omega
              · have hkm : ¬ (k : Int) < m := by omega
                go_wp2
                clear cr0 hm hkm hkm0 hk
                obtain ⟨m, hm⟩ : ∃ x, bs.length = x := ⟨_, rfl⟩
                go_loopw [13] (fun j wk => ∃ k : Nat, k ≤ m ∧ j = .int .i64 k ∧ Wk B g wk l' ∧ Below W4.heap.size W4 wk ∧ g < wk.heap.size) (fun j _ => m - (intOf j).toNat)
                case atStart => exact ⟨0, by omega, rfl, hWk, hbk, hglt⟩
                case round =>
                  clear hWk hbk hglt
                  obtain ⟨k, hk, rfl, hWk, hbk, hglt⟩ := hrel
                  have cr0 := hWk.bears ii _ hp
                  simp only [hm] at cr0
                  by_cases hkm0 : k < m
                  · obtain ⟨b9, hpa, -, -, -, -⟩ := (hWk.soft2 ii _ hp) k (by simp only; omega)
                    simp only at hpa
                    subst hpa
                    have hkm : (k : Int) < m := by omega
                    go_upto_region 19 with fail
                    clear cr0
                    refine wp_region_rely_last 9 (fun w1 => Below wr.heap.size wr w1) (fun w1 w2 => Below w1.heap.size w1 w2) (ownF19 g n cap ii m bc b9 k bi nm) (by kernel_rfl) (by kernel_rfl) (Below.refl _ _).drew ?keep ?step ?rest
                    case keep =>
                      intro i v w1 w2 hS hF
                      unfold ownF19 at *
                      split at hF <;> try exact hF
                    case step =>
                      intro i o d hi ho hd b w1 hR hold hdep
                      have o2 : sl b 2 = .int .i64 bi := hold 2 (by kernel_rfl)
                      have o10 : sl b 10 = .slice (some ⟨g, 0, none⟩) n cap := hold 10 (by kernel_rfl)
                      have o11 : sl b 11 = .int .i64 ii := hold 11 (by kernel_rfl)
                      have o13 : sl b 13 = .int .i64 k := hold 13 (by kernel_rfl)
                      have hb0 := Below.refl w1.heap.size w1
                      have hW9 := hWk.later hglt hR
                      have cr := hW9.bears ii _ hp
                      simp only [hm] at cr
                      rcases i with _ | _ | _ | _ | _ | _ | _ | _ | _ | i
                      all_goals try (cases ho; cases hd)
                      · exact ok_val' rfl rfl (want_none rfl b) (by simp [go_sem, o10]) hR hb0 rfl
                      · exact ok_val' rfl rfl (want_none rfl b) (by simp [go_sem, o11]) hR hb0 rfl
                      · have f68 : sl b 68 = .slice (some ⟨g, 0, none⟩) n cap := hdep 0 _ _ rfl rfl (by kernel_rfl)
                        have f69 : sl b 69 = .int .i64 ii := hdep 1 _ _ rfl rfl (by kernel_rfl)
                        exact ok_val' rfl rfl (want_none rfl b) (by simp [go_sem, f68, f69, hin]) hR hb0 rfl
                      · have f70 : sl b 70 = .pointer (some ⟨g, ii * 7, none⟩) := hdep 2 _ _ rfl rfl (by kernel_rfl)
                        exact ok_val' rfl rfl (want_none rfl b) (by simp [go_sem, f70]) hR hb0 rfl
                      · have f71 : sl b 71 = .pointer (some ⟨g, ii * 7 + 5, none⟩) := hdep 3 _ _ rfl rfl (by kernel_rfl)
                        exact ok_val' rfl rfl (want_none rfl b) (by simp [go_sem, f71, cr]) hR hb0 rfl
                      · exact ok_val' rfl rfl (want_none rfl b) (by simp [go_sem, o13]) hR hb0 rfl
                      · exact ok_val' rfl rfl (want_none rfl b) (by simp [go_sem, o2]) hR hb0 rfl
                      · have f74 : sl b 74 = .int .i64 bi := hdep 6 _ _ rfl rfl (by kernel_rfl)
                        refine ok_enter' rfl rfl (want_none rfl b) ?_ ((kn w1 (Below.refl _ _)).mono ?_)
                        · simp [go_sem, f74, cfName]
                        rintro e w2 ⟨rfl, hb2⟩
                        exact ⟨_, rfl, hR.trans (hb2.mono hR.size), hb2, rfl⟩
                      · have f72 : sl b 72 = .slice (some ⟨b9, 0, none⟩) m bc := hdep 4 _ _ rfl rfl (by kernel_rfl)
                        have f73 : sl b 73 = .int .i64 k := hdep 5 _ _ rfl rfl (by kernel_rfl)
                        exact ok_val' rfl rfl (want_none rfl b) (by simp [go_sem, f72, f73, hkm]) hR hb0 rfl
                      · omega
                    case rest =>
                      intro o b V9 ho hR hsz hdf hold hF
                      cases ho
                      have f2 : sl b 2 = .int .i64 bi := hold 2 (by kernel_rfl)
                      have f10 : sl b 10 = .slice (some ⟨g, 0, none⟩) n cap := hold 10 (by kernel_rfl)
                      have f11 : sl b 11 = .int .i64 ii := hold 11 (by kernel_rfl)
                      have f13 : sl b 13 = .int .i64 k := hold 13 (by kernel_rfl)
                      have f75 : sl b 75 = .string nm := hF 7 _ _ (by decide) rfl rfl
                      have f76 : sl b 76 = .pointer (some ⟨b9, k, none⟩) := hF 8 _ _ (by decide) rfl rfl
                      have f0 := hold 0 (by kernel_rfl)
                      have f1 := hold 1 (by kernel_rfl)
                      have f3 := hold 3 (by kernel_rfl)
                      have f4 := hold 4 (by kernel_rfl)
                      have f5 := hold 5 (by kernel_rfl)
                      have f6 := hold 6 (by kernel_rfl)
                      have f7 := hold 7 (by kernel_rfl)
                      have f8 := hold 8 (by kernel_rfl)
                      have f9 := hold 9 (by kernel_rfl)
                      have f12 := hold 12 (by kernel_rfl)
                      have f14 := hold 14 (by kernel_rfl)
                      have f15 := hold 15 (by kernel_rfl)
                      have f16 := hold 16 (by kernel_rfl)
                      have f17 := hold 17 (by kernel_rfl)
                      have f18 := hold 18 (by kernel_rfl)
                      have f19 := hold 19 (by kernel_rfl)
                      have f20 := hold 20 (by kernel_rfl)
                      have f21 := hold 21 (by kernel_rfl)
                      have f22 := hold 22 (by kernel_rfl)
                      have f23 := hold 23 (by kernel_rfl)
                      have f24 := hold 24 (by kernel_rfl)
                      have f25 := hold 25 (by kernel_rfl)
                      have f26 := hold 26 (by kernel_rfl)
                      have f27 := hold 27 (by kernel_rfl)
                      have f28 := hold 28 (by kernel_rfl)
                      have f29 := hold 29 (by kernel_rfl)
                      have f30 := hold 30 (by kernel_rfl)
                      have f31 := hold 31 (by kernel_rfl)
                      have f32 := hold 32 (by kernel_rfl)
                      have f33 := hold 33 (by kernel_rfl)
                      have f34 := hold 34 (by kernel_rfl)
                      have f35 := hold 35 (by kernel_rfl)
                      have f36 := hold 36 (by kernel_rfl)
                      have f37 := hold 37 (by kernel_rfl)
                      have f38 := hold 38 (by kernel_rfl)
                      have f39 := hold 39 (by kernel_rfl)
                      have f40 := hold 40 (by kernel_rfl)
                      have f41 := hold 41 (by kernel_rfl)
                      have f42 := hold 42 (by kernel_rfl)
                      have f43 := hold 43 (by kernel_rfl)
                      have f44 := hold 44 (by kernel_rfl)
                      have f45 := hold 45 (by kernel_rfl)
                      have f46 := hold 46 (by kernel_rfl)
                      have f47 := hold 47 (by kernel_rfl)
                      have f48 := hold 48 (by kernel_rfl)
                      have f49 := hold 49 (by kernel_rfl)
                      have f50 := hold 50 (by kernel_rfl)
                      have f51 := hold 51 (by kernel_rfl)
                      have f52 := hold 52 (by kernel_rfl)
                      have f53 := hold 53 (by kernel_rfl)
                      have f54 := hold 54 (by kernel_rfl)
                      have f55 := hold 55 (by kernel_rfl)
                      have f56 := hold 56 (by kernel_rfl)
                      have f57 := hold 57 (by kernel_rfl)
                      have f58 := hold 58 (by kernel_rfl)
                      have f59 := hold 59 (by kernel_rfl)
                      have f60 := hold 60 (by kernel_rfl)
                      have f61 := hold 61 (by kernel_rfl)
                      have f62 := hold 62 (by kernel_rfl)
                      have f63 := hold 63 (by kernel_rfl)
                      have f64 := hold 64 (by kernel_rfl)
                      have f65 := hold 65 (by kernel_rfl)
                      have f66 := hold 66 (by kernel_rfl)
                      have f67 := hold 67 (by kernel_rfl)
                      have f77 := hold 77 (by kernel_rfl)
                      have f78 := hold 78 (by kernel_rfl)
                      have f79 := hold 79 (by kernel_rfl)
                      have f80 := hold 80 (by kernel_rfl)
                      have f81 := hold 81 (by kernel_rfl)
                      have f82 := hold 82 (by kernel_rfl)
                      have f83 := hold 83 (by kernel_rfl)
                      have f84 := hold 84 (by kernel_rfl)
                      have f85 := hold 85 (by kernel_rfl)
                      have f86 := hold 86 (by kernel_rfl)
                      have hB : b = _ := act_list b (show b.tmps.size = 87 from hsz) hdf
                      have hW9 := hWk.later hglt hR
                      obtain ⟨b8, hb8, hbg, hbB, ⟨s9, hs9⟩, hfz⟩ := (hW9.soft2 ii _ hp) k (by simp only; omega)
                      obtain rfl : b9 = b8 := by simpa using hb8
                      have fzk := hfz k
                      refine ok_skip (w2 := V9.setCell ⟨b9, k, none⟩ (.string nm)) rfl rfl rfl (by simp [go_sem, f75, f76, hs9, fzk] <;> rfl) ?_
                      have hW10 := hW9.set (t := nm) hs9
                      have hB10 : Below W4.heap.size W4 (V9.setCell ⟨b9, k, none⟩ (.string nm)) := (fin hR hbk).setCell (p := ⟨b9, k, none⟩) (by simp; omega) _
                      rw [hB]
                      simp only [List.range, List.range.loop, List.map_cons, List.map_nil, f0, f1, f2, f3, f4, f5, f6, f7, f8, f9, f10, f11, f12, f13, f14, f15, f16, f17, f18, f19, f20, f21, f22, f23, f24, f25, f26, f27, f28, f29, f30, f31, f32, f33, f34, f35, f36, f37, f38, f39, f40, f41, f42, f43, f44, f45, f46, f47, f48, f49, f50, f51, f52, f53, f54, f55, f56, f57, f58, f59, f60, f61, f62, f63, f64, f65, f66, f67, f75, f76, f77, f78, f79, f80, f81, f82, f83, f84, f85, f86]
                      generalize sl b 68 = v68, sl b 69 = v69, sl b 70 = v70, sl b 71 = v71, sl b 72 = v72, sl b 73 = v73, sl b 74 = v74
                      simp only [sl, List.getElem?_toArray, List.getElem?_cons_succ, List.getElem?_cons_zero, Option.getD_some]
                      clear hB hold hsz hdf hF f0 f1 f2 f3 f4 f5 f6 f7 f8 f9 f10 f11 f12 f13 f14 f15 f16 f17 f18 f19 f20 f21 f22 f23 f24 f25 f26 f27 f28 f29 f30 f31 f32 f33 f34 f35 f36 f37 f38 f39 f40 f41 f42 f43 f44 f45 f46 f47 f48 f49 f50 f51 f52 f53 f54 f55 f56 f57 f58 f59 f60 f61 f62 f63 f64 f65 f66 f67 f75 f76 f77 f78 f79 f80 f81 f82 f83 f84 f85 f86
                      have hgl10 : g < (V9.setCell ⟨b9, k, none⟩ (.string nm)).heap.size := by have := hR.size; simp; omega
                      generalize V9.setCell ⟨b9, k, none⟩ (.string nm) = V10 at *
                      clear hs9 hfz fzk hW9
                      go_wp2
                      go_roundw
                      case rel => exact ⟨k + 1, by omega, by go_num, hW10, hB10, hgl10⟩
                      case measure => simp [intOf]; omega
                  · have hkm : ¬ (k : Int) < m := by omega
                    go_wp2
                    go_roundw
                    case rel => exact ⟨ii + 1, by omega, by go_num, hWk, hbk, hglt⟩
                    case measure => simp [intOf]; omega
          · have hin : ¬ (ii : Int) < n := by omega
            go_wp2
            go_roundw
            case rel => exact ⟨s + 1, by omega, by omega, by go_num, hbk⟩
            case measure => simp [intOf]; omega
    · obtain rfl : s = 3 := by omega
      obtain ⟨gc0, gc1⟩ := (G4.later hb4).cells2
      obtain ⟨hc0, hc1'⟩ := (H4.later hb4).cells2
      have kp := fun W (hb : Below W4.heap.size W4 W) => rPods_same a1 a2 n1 c1 c2 l1 l2 W hl1 (hd1.trans hd2.symm) (hP14.later hb) (hP24.later hb)
      have hn12 : n2 = n1 := by
        have h1 := congrArg List.length hd1
        have h2 := congrArg List.length hd2
        simp only [List.length_map] at h1 h2
        omega
      subst hn12
      have kq := fun W (hb : Below W4.heap.size W4 W) => gang_any gid 2 a1 c1 n2 l1 W hl1 hc1 (hP14.later hb)
      rw [hE1] at kq
      go_wp2_with (first
        | (go_at_call 29; refine (kp _ hb4).mono ?_; rintro e w8 ⟨rfl, hb8⟩
           have hb48 := hb4.trans (hb8.mono hb4.size)
           clear gc0 gc1
           obtain ⟨gc0, gc1⟩ := (G4.later hb48).cells2)
        | (go_at_call 23; refine (kq _ hb48).mono ?_; rintro e w9 ⟨rfl, hb9⟩))
      go_ret
      exact ⟨rfl, fin (hb48.trans (hb9.mono hb48.size)) hW4⟩

end Go.Proofs.Ytgcicillmljglaa
