/- The walk of ScoreBest. -/
import Derived.Test.YtmkbllkfipcghaaKN
import Derived.Test.YtmkbllkfipcghaaN
import Derived.Test.YtmkbllkfipcghaaBP
import Derived.Test.YtmkbllkfipcghaaBR
import Derived.Test.YtmkbllkfipcghaaOW
import Derived.Laws.OwnMore
namespace Go.Proofs.Ytmkbllkfipcghaa
open Go.RowKit Go.Maps
set_option linter.unusedSimpArgs false

theorem own_slice {w : World} {base : Nat} {e : TypeId} {size : Nat} {v : Value} {n : Nat} {xs : List Value} (h : w.ownsRow base e size v n xs) (hn : 0 < n) : ∃ g cap, v = .slice (some ⟨g, 0, none⟩) n cap ∧ base ≤ g ∧ g < w.heap.size ∧ n ≤ cap := by
  rcases h.2 with ⟨_, h0⟩ | ⟨g, cap, cur, rfl, hb, hh, hc, _⟩
  · omega
  · exact ⟨g, cap, rfl, hb, (Array.getElem?_eq_some_iff.1 hh).1, hc⟩
theorem own_cell {w : World} {base g n cap : Nat} {e : TypeId} {size : Nat} {xs : List Value} (h : w.ownsRow base e size (.slice (some ⟨g, 0, none⟩) n cap) n xs) (j : Nat) (u : Value) (hu : xs[j]? = some u) : w.cell? ⟨g, j, none⟩ = some u := by
  have := h.cells (g := g) rfl j u hu
  rcases Nat.eq_zero_or_pos j with rfl | hi
  · simpa [Addr.add] using this
  · simpa [Addr.add, show j ≠ 0 by omega] using this
theorem own_frozen {w : World} {base g n cap : Nat} {e : TypeId} {size : Nat} {xs : List Value} (h : w.ownsRow base e size (.slice (some ⟨g, 0, none⟩) n cap) n xs) (j : Nat) : w.frozen? ⟨g, j, none⟩ = false := by
  rcases h.2 with ⟨h0, _⟩ | ⟨g', cap', cur, h', _, hh, _⟩
  · cases h0
  · cases h'
    simp [World.frozen?, hh]

/-- What all operations of a round leave there. -/
structure BeR (w wr w1 : World) : Prop where
  bel : Below w.heap.size w w1
  size : w.heap.size ≤ w1.heap.size
  grow : wr.heap.size ≤ w1.heap.size
theorem BeR.later {w wr w1 w2 : World} (h : BeR w wr w1) (hb : Below w1.heap.size w1 w2) : BeR w wr w2 :=
  ⟨fin hb h.bel, Nat.le_trans h.size hb.size, Nat.le_trans h.grow hb.size⟩
theorem BeR.app {w wr w1 w2 : World} {e : TypeId} {v : Value} {n : Nat} {xs : List Value} (h : BeR w wr w1) (ho : w1.ownsRow w.heap.size e 1 v n xs) (hg : w1.grownBy w2 v.ownBlock) : BeR w wr w2 :=
  ⟨h.bel.grown hg h.bel.size (fun j hj => own_lt ho j hj), Nat.le_trans h.size hg.size, Nat.le_trans h.grow hg.size⟩
theorem BeR.app1 {w wr w1 w2 : World} {v : Value} {n : Nat} {xs : List ByteArray} (h : BeR w wr w1) (ho : w1.ownsRow w.heap.size 9 1 v n (xs.map Value.string)) (hg : w1.grownBy w2 v.ownBlock) : BeR w wr w2 := h.app ho hg
theorem BeR.app2 {w wr w1 w2 : World} {v : Value} {n : Nat} {xs : List Int} (h : BeR w wr w1) (ho : w1.ownsRow w.heap.size 3 1 v n (xs.map (Value.int .i64))) (hg : w1.grownBy w2 v.ownBlock) : BeR w wr w2 := h.app ho hg

def beF (WR : World) (B m : Nat) (sv zv : Value) (ss : List ByteArray) (zs : List Int) (x y : Addr) (len0 cap0 len1 cap1 : Nat) (n0 s0 s4 : Int) (nm : ByteArray) : Nat → Value → World → Prop
  | 0, r, _ => r = sv
  | 1, r, _ => r = .slice (some x) len0 cap0
  | 2, r, _ => r = .int .i64 m
  | 3, r, _ => r = .pointer (some (x.add m))
  | 4, r, _ => r = .int .i64 n0
  | 5, r, _ => r = .string nm
  | 6, r, w1 => ∃ D, WR.heap.size ≤ D ∧ r = .slice (some ⟨D, 0, none⟩) 1 1 ∧ w1.cell? ⟨D, 0, none⟩ = some (.string nm)
  | 7, r, w1 => w1.ownsRow B 9 1 r (m + 1) ((ss ++ [nm]).map Value.string)
  | 8, r, _ => r = zv
  | 9, r, _ => r = .slice (some y) len1 cap1
  | 10, r, _ => r = .int .i64 m
  | 11, r, _ => r = .pointer (some (y.add m))
  | 12, r, _ => r = .int .i64 s0
  | 13, r, _ => r = .int .i64 s4
  | 14, r, w1 => ∃ D, WR.heap.size ≤ D ∧ r = .slice (some ⟨D, 0, none⟩) 1 1 ∧ w1.cell? ⟨D, 0, none⟩ = some (.int .i64 s4)
  | 15, r, w1 => w1.ownsRow B 3 1 r (m + 1) ((zs ++ [s4]).map (Value.int .i64))
  | 16, r, w1 => w1.ownsRow B 9 1 r (m + 1) ((ss ++ [nm]).map Value.string)
  | 17, r, w1 => w1.ownsRow B 3 1 r (m + 1) ((zs ++ [s4]).map (Value.int .i64))
  | _, _, _ => True
def beS (B m : Nat) (sv zv : Value) (ss : List ByteArray) (zs : List Int) : Nat → World → World → Prop
  | 7, w1, w2 => w1.ownsRow B 9 1 sv m ((ss).map Value.string) ∧ w1.grownBy w2 sv.ownBlock
  | 15, w1, w2 => w1.ownsRow B 3 1 zv m ((zs).map (Value.int .i64)) ∧ w1.grownBy w2 zv.ownBlock
  | _, w1, w2 => Below w1.heap.size w1 w2
def beG (B m : Nat) (sv zv : Value) (ss : List ByteArray) (zs : List Int) : Nat → World → Prop
  | 7, w1 => w1.ownsRow B 9 1 sv m ((ss).map Value.string)
  | 15, w1 => w1.ownsRow B 3 1 zv m ((zs).map (Value.int .i64))
  | _, _ => True
theorem beS_else (B m : Nat) (sv zv : Value) (ss : List ByteArray) (zs : List Int) (i : Nat) (w1 w2 : World) (h1 : i ≠ 7) (h2 : i ≠ 15) (h : beS B m sv zv ss zs i w1 w2) : Below w1.heap.size w1 w2 := by
  unfold beS at h
  split at h
  · exact absurd rfl h1
  · exact absurd rfl h2
  · exact h

set_option maxRecDepth 100000 in
set_option maxHeartbeats 8000000 in
theorem scoreBest_walk (a0 : Option Addr) (len0 cap0 : Nat) (z0 : List Int) (a1 : Option Addr) (len1 cap1 : Nat) (z1 : List Int) (a2 : Option Addr) (len2 cap2 : Nat) (z2 : List Int) (w : World) (w0 : IsRow .i64 w a0 len0 cap0 z0) (w1 : IsRow .i64 w a1 len1 cap1 z1) (w2 : IsRow .i64 w a2 len2 cap2 z2) :
    Calls Try.prog 5 #[.slice a0 len0 cap0, .slice a1 len1 cap1, .slice a2 len2 cap2] w fun e w' => e = .returned (.bool true) ∧ Below w.heap.size w w' := by
  replace w0 := w0.has
  replace w1 := w1.has
  replace w2 := w2.has
  have l0 : len0 ≤ 9223372036854775807 := w0.1
  have l1 : len1 ≤ 9223372036854775807 := w1.1
  have l2 : len2 ≤ 9223372036854775807 := w2.1
  go_enter Try.func5, Try.ntmps5
  go_wp2_with (first
    | (go_at_call 6; refine (known_any _).mono ?_; rintro e wk ⟨rfl, hbk⟩))
  go_loopw [7, 8, 9] (fun sv zv i wr => ∃ (m : Nat) (ss : List ByteArray) (zs : List Int), m ≤ 12 ∧ m ≤ len0 ∧ m ≤ len1 ∧ i = .int .i64 m ∧ wr.ownsRow w.heap.size 9 1 sv m (ss.map Value.string) ∧ wr.ownsRow w.heap.size 3 1 zv m (zs.map (Value.int .i64)) ∧ Below w.heap.size w wr) (fun _ _ i _ => 12 - (intOf i).toNat)
  case atStart => exact ⟨0, [], [], by omega, by omega, by omega, rfl, World.ownsRow_nil _ _ _ _, World.ownsRow_nil _ _ _ _, hbk⟩
  case round =>
  obtain ⟨m, ss, zs, hm, hm0, hm1, rfl, hown1, hown2, hbr⟩ := hrel
  by_cases hlt : m < len0 ∧ m < len1 ∧ m < 12
  · obtain ⟨hl0, hl1, hl2⟩ := hlt
    obtain ⟨x, hxa, hcx⟩ := w0.2 m hl0
    subst hxa
    obtain ⟨y, hya, hcy⟩ := w1.2 m hl1
    subst hya
    obtain ⟨n0, hn0⟩ : ∃ k, z0.getD m 0 = k := ⟨_, rfl⟩
    obtain ⟨s0, hs0⟩ : ∃ k, z1.getD m 0 = k := ⟨_, rfl⟩
    rw [hn0] at hcx
    rw [hs0] at hcy
    obtain ⟨nm, hnm⟩ : ∃ s, nameAt n0 = s := ⟨_, rfl⟩
    obtain ⟨s4, hs4⟩ : ∃ k, s0 % 4 = k := ⟨_, rfl⟩
    obtain ⟨s9, hs9⟩ : ∃ k, s0 % 9 = k := ⟨_, rfl⟩
    have k4 := fun W => within6_any s0 4 s4 (by decide) (by decide) hs4 W
    have k9 := fun W => within6_any s0 9 s9 (by decide) (by decide) hs9 W
    have hi0 : (m : Int) < len0 := by omega
    have hi1 : (m : Int) < len1 := by omega
    have hi12 : (m : Int) < 12 := by omega
    clear hs4 hs9 hn0 hs0
    obtain ⟨sv, hsv⟩ : ∃ v, u7 = v := ⟨_, rfl⟩
    obtain ⟨zv, hzv⟩ : ∃ v, u8 = v := ⟨_, rfl⟩
    rw [hsv] at hown1 ⊢
    rw [hzv] at hown2 ⊢
    clear hsv hzv
    have hR0 : BeR w wr wr.drew := ⟨hbr.drew, hbr.size, Nat.le_refl _⟩
    go_upto_region 8 with fail
    refine wp_region_relyY (fun w1 => BeR w wr w1) (beS w.heap.size m sv zv ss zs) (beF wr w.heap.size m sv zv ss zs x y len0 cap0 len1 cap1 n0 s0 s4 nm) (beG w.heap.size m sv zv ss zs) (by kernel_rfl) (by kernel_rfl) hR0 ?gs ?keep ?give ?step ?rest
    case gs =>
      intro c
      unfold beG
      split
      · exact hown1
      · exact hown2
      · trivial
    case keep =>
      intro i j oj r w1 w2 hij hj hw hR1 hS hF
      by_cases h1 : i = 7
      · subst h1
        obtain ⟨hso, hsg⟩ := hS
        unfold beF at *
        split at hF
        all_goals first
          | exact hF
          | (obtain ⟨D, hD, hr, hc⟩ := hF
             exact ⟨D, hD, hr, hsg.cell hc (fun heq => by have := (hown1.lt D heq.symm).2; omega)⟩)
          | exact absurd rfl hij
          | (refine own_beside hF hso ?_ hsg; decide)
          | (exfalso
             have hx : waits oj 7 = true := by cases hj; kernel_rfl
             rw [hx] at hw
             cases hw)
      · by_cases h2 : i = 15
        · subst h2
          obtain ⟨hso, hsg⟩ := hS
          unfold beF at *
          split at hF
          all_goals first
            | exact hF
            | (obtain ⟨D, hD, hr, hc⟩ := hF
               exact ⟨D, hD, hr, hsg.cell hc (fun heq => by have := (hown2.lt D heq.symm).2; omega)⟩)
            | exact absurd rfl hij
            | (refine own_beside hF hso ?_ hsg; decide)
            | (exfalso
               have hx : waits oj 15 = true := by cases hj; kernel_rfl
               rw [hx] at hw
               cases hw)
        · have hb := beS_else _ _ _ _ _ _ i w1 w2 h1 h2 hS
          unfold beF at *
          split at hF
          all_goals first
            | exact hF
            | (obtain ⟨D, hD, hr, hc⟩ := hF
               exact ⟨D, hD, hr, cell_below hb hc (block_lt hc)⟩)
            | exact own_keep hF hb
    case give =>
      intro i c w1 w2 hic hR1 hS hF
      by_cases h1 : i = 7
      · subst h1
        obtain ⟨hso, hsg⟩ := hS
        unfold beG at *
        split at hF
        · exact absurd rfl hic
        · exact own_beside hF hso (by decide) hsg
        · trivial
      · by_cases h2 : i = 15
        · subst h2
          obtain ⟨hso, hsg⟩ := hS
          unfold beG at *
          split at hF
          · exact own_beside hF hso (by decide) hsg
          · exact absurd rfl hic
          · trivial
        · have hb := beS_else _ _ _ _ _ _ i w1 w2 h1 h2 hS
          unfold beG at *
          split at hF
          · exact own_keep hF hb
          · exact own_keep hF hb
          · trivial
    case step =>
      intro i o ho b w1 hR hG hold hdep
      have cx := cell_below hR.bel hcx (block_lt hcx)
      have cy := cell_below hR.bel hcy (block_lt hcy)
      have hb0 := Below.refl w1.heap.size w1
      rcases i with _ | _ | _ | _ | _ | _ | _ | _ | _ | _ | _ | _ | _ | _ | _ | _ | _ | _ | i
      all_goals try cases ho
      · have o7 : sl b 7 = sv := hold 7 (by kernel_rfl)
        exact okY_val rfl rfl (want_none rfl b) (by simp [go_sem, o7]) hR hb0 rfl
      · have o0 : sl b 0 = .slice (some x) len0 cap0 := hold 0 (by kernel_rfl)
        exact okY_val rfl rfl (want_none rfl b) (by simp [go_sem, o0]) hR hb0 rfl
      · have o9 : sl b 9 = .int .i64 m := hold 9 (by kernel_rfl)
        exact okY_val rfl rfl (want_none rfl b) (by simp [go_sem, o9]) hR hb0 rfl
      · have f31 : sl b 31 = .slice (some x) len0 cap0 := hdep 1 _ rfl (by kernel_rfl)
        have f32 : sl b 32 = .int .i64 m := hdep 2 _ rfl (by kernel_rfl)
        exact okY_val rfl rfl (want_none rfl b) (by simp [go_sem, f31, f32, hi0]) hR hb0 rfl
      · have f33 : sl b 33 = .pointer (some (x.add m)) := hdep 3 _ rfl (by kernel_rfl)
        exact okY_val rfl rfl (want_none rfl b) (by simp [go_sem, f33, cx]) hR hb0 rfl
      · have f34 : sl b 34 = .int .i64 n0 := hdep 4 _ rfl (by kernel_rfl)
        refine okY_enter rfl rfl (want_none rfl b) ?_ ((lName_is n0 nm w1 w1 (Below.refl _ _) hnm).mono ?_)
        · simp [go_sem, f34]
        rintro e w2 ⟨rfl, hb2⟩
        exact ⟨_, rfl, hR.later hb2, hb2, rfl⟩
      · have f35 : sl b 35 = .string nm := hdep 5 _ rfl (by kernel_rfl)
        exact okY_val rfl rfl (want_none rfl b) (by simp [go_sem, f35] <;> first | rfl | exact ⟨rfl, rfl⟩) (hR.later (up hb0 _)) (up hb0 _) ⟨_, hR.grow, rfl, by simp⟩
      · have f30 : sl b 30 = sv := hdep 0 _ rfl (by kernel_rfl)
        obtain ⟨D6, hD6, f36, g36⟩ : ∃ D, wr.heap.size ≤ D ∧ sl b 36 = .slice (some ⟨D, 0, none⟩) 1 1 ∧ w1.cell? ⟨D, 0, none⟩ = some (.string nm) := hdep 6 _ rfl (by kernel_rfl)
        refine okY_text rfl rfl rfl (.tmp 30) (.tmp 36) rfl w.heap.size sv m ss (by simpa [go_sem] using f30) hG D6 (nm) (by simpa [go_sem] using f36) g36 (by omega) (hR.size) ?_
        intro v2 w2 hown hgrow
        exact ⟨hR.app1 hG hgrow, ⟨hG, hgrow⟩, hown⟩
      · have o8 : sl b 8 = zv := hold 8 (by kernel_rfl)
        exact okY_val rfl rfl (want_none rfl b) (by simp [go_sem, o8]) hR hb0 rfl
      · have o1 : sl b 1 = .slice (some y) len1 cap1 := hold 1 (by kernel_rfl)
        exact okY_val rfl rfl (want_none rfl b) (by simp [go_sem, o1]) hR hb0 rfl
      · have o9 : sl b 9 = .int .i64 m := hold 9 (by kernel_rfl)
        exact okY_val rfl rfl (want_none rfl b) (by simp [go_sem, o9]) hR hb0 rfl
      · have f39 : sl b 39 = .slice (some y) len1 cap1 := hdep 9 _ rfl (by kernel_rfl)
        have f40 : sl b 40 = .int .i64 m := hdep 10 _ rfl (by kernel_rfl)
        exact okY_val rfl rfl (want_none rfl b) (by simp [go_sem, f39, f40, hi1]) hR hb0 rfl
      · have f41 : sl b 41 = .pointer (some (y.add m)) := hdep 11 _ rfl (by kernel_rfl)
        exact okY_val rfl rfl (want_none rfl b) (by simp [go_sem, f41, cy]) hR hb0 rfl
      · have f42 : sl b 42 = .int .i64 s0 := hdep 12 _ rfl (by kernel_rfl)
        refine okY_enter rfl rfl (want_none rfl b) ?_ ((k4 w1).mono ?_)
        · simp [go_sem, f42]
        rintro e w2 ⟨rfl, rfl⟩
        exact ⟨_, rfl, hR, hb0, rfl⟩
      · have f43 : sl b 43 = .int .i64 s4 := hdep 13 _ rfl (by kernel_rfl)
        exact okY_val rfl rfl (want_none rfl b) (by simp [go_sem, f43] <;> first | rfl | exact ⟨rfl, rfl⟩) (hR.later (up hb0 _)) (up hb0 _) ⟨_, hR.grow, rfl, by simp⟩
      · have f38 : sl b 38 = zv := hdep 8 _ rfl (by kernel_rfl)
        obtain ⟨D14, hD14, f44, g44⟩ : ∃ D, wr.heap.size ≤ D ∧ sl b 44 = .slice (some ⟨D, 0, none⟩) 1 1 ∧ w1.cell? ⟨D, 0, none⟩ = some (.int .i64 s4) := hdep 14 _ rfl (by kernel_rfl)
        refine okY_num rfl rfl rfl (.tmp 38) (.tmp 44) rfl w.heap.size zv m zs (by simpa [go_sem] using f38) hG D14 (s4) (by simpa [go_sem] using f44) g44 (by omega) (hR.size) ?_
        intro v2 w2 hown hgrow
        exact ⟨hR.app2 hG hgrow, ⟨hG, hgrow⟩, hown⟩
      · have f37 : w1.ownsRow w.heap.size 9 1 (sl b 37) (m + 1) ((ss ++ [nm]).map Value.string) := hdep 7 _ rfl (by kernel_rfl)
        obtain ⟨va, vc, hv⟩ := slice_of_own f37
        exact okY_val rfl rfl (want_none rfl b) (by simp [go_sem, hv]; rfl) hR hb0 (by rw [← hv]; exact f37)
      · have f45 : w1.ownsRow w.heap.size 3 1 (sl b 45) (m + 1) ((zs ++ [s4]).map (Value.int .i64)) := hdep 15 _ rfl (by kernel_rfl)
        obtain ⟨va, vc, hv⟩ := slice_of_own f45
        exact okY_val rfl rfl (want_none rfl b) (by simp [go_sem, hv]; rfl) hR hb0 (by rw [← hv]; exact f45)
    case rest =>
      intro b w1 hR hsz hdf hold hF
      have p1 : w1.ownsRow w.heap.size 9 1 (sl b 7) (m + 1) ((ss ++ [nm]).map Value.string) := hF 16 _ rfl
      have p2 : w1.ownsRow w.heap.size 3 1 (sl b 8) (m + 1) ((zs ++ [s4]).map (Value.int .i64)) := hF 17 _ rfl
      have f0 := hold 0 (by kernel_rfl)
      have f1 := hold 1 (by kernel_rfl)
      have f2 := hold 2 (by kernel_rfl)
      have f3 := hold 3 (by kernel_rfl)
      have f4 := hold 4 (by kernel_rfl)
      have f5 := hold 5 (by kernel_rfl)
      have f6 := hold 6 (by kernel_rfl)
      have f9 := hold 9 (by kernel_rfl)
      have f10 := hold 10 (by kernel_rfl)
      have f11 := hold 11 (by kernel_rfl)
      have f12 := hold 12 (by kernel_rfl)
      have f13 := hold 13 (by kernel_rfl)
      have f14 := hold 14 (by kernel_rfl)
      have f15 := hold 15 (by kernel_rfl)
      have f16 := hold 16 (by kernel_rfl)
      have f17 := hold 17 (by kernel_rfl)
      have f18 := hold 18 (by kernel_rfl)
      have f19 := hold 19 (by kernel_rfl)
      have f20 := hold 20 (by kernel_rfl)
      have f21 := hold 21 (by kernel_rfl)
      have f22 := hold 22 (by kernel_rfl)
      have f23 := hold 23 (by kernel_rfl)
      have f24 := hold 24 (by kernel_rfl)
      have f25 := hold 25 (by kernel_rfl)
      have f26 := hold 26 (by kernel_rfl)
      have f27 := hold 27 (by kernel_rfl)
      have f28 := hold 28 (by kernel_rfl)
      have f29 := hold 29 (by kernel_rfl)
      have f46 := hold 46 (by kernel_rfl)
      have f47 := hold 47 (by kernel_rfl)
      have f48 := hold 48 (by kernel_rfl)
      have f49 := hold 49 (by kernel_rfl)
      have f50 := hold 50 (by kernel_rfl)
      have f51 := hold 51 (by kernel_rfl)
      have f52 := hold 52 (by kernel_rfl)
      have f53 := hold 53 (by kernel_rfl)
      have f54 := hold 54 (by kernel_rfl)
      have f55 := hold 55 (by kernel_rfl)
      have f56 := hold 56 (by kernel_rfl)
      have f57 := hold 57 (by kernel_rfl)
      have f58 := hold 58 (by kernel_rfl)
      have f59 := hold 59 (by kernel_rfl)
      have f60 := hold 60 (by kernel_rfl)
      have f61 := hold 61 (by kernel_rfl)
      have f62 := hold 62 (by kernel_rfl)
      have f63 := hold 63 (by kernel_rfl)
      have f64 := hold 64 (by kernel_rfl)
      have f65 := hold 65 (by kernel_rfl)
      have f66 := hold 66 (by kernel_rfl)
      have f67 := hold 67 (by kernel_rfl)
      have f68 := hold 68 (by kernel_rfl)
      have f69 := hold 69 (by kernel_rfl)
      have f70 := hold 70 (by kernel_rfl)
      have f71 := hold 71 (by kernel_rfl)
      have f72 := hold 72 (by kernel_rfl)
      have f73 := hold 73 (by kernel_rfl)
      have f74 := hold 74 (by kernel_rfl)
      have f75 := hold 75 (by kernel_rfl)
      have f76 := hold 76 (by kernel_rfl)
      have f77 := hold 77 (by kernel_rfl)
      have f78 := hold 78 (by kernel_rfl)
      have f79 := hold 79 (by kernel_rfl)
      have f80 := hold 80 (by kernel_rfl)
      have f81 := hold 81 (by kernel_rfl)
      have f82 := hold 82 (by kernel_rfl)
      have f83 := hold 83 (by kernel_rfl)
      have f84 := hold 84 (by kernel_rfl)
      have f85 := hold 85 (by kernel_rfl)
      have f86 := hold 86 (by kernel_rfl)
      have f87 := hold 87 (by kernel_rfl)
      have f88 := hold 88 (by kernel_rfl)
      have f89 := hold 89 (by kernel_rfl)
      have f90 := hold 90 (by kernel_rfl)
      have f91 := hold 91 (by kernel_rfl)
      have f92 := hold 92 (by kernel_rfl)
      have f93 := hold 93 (by kernel_rfl)
      have f94 := hold 94 (by kernel_rfl)
      have f95 := hold 95 (by kernel_rfl)
      have f96 := hold 96 (by kernel_rfl)
      have f97 := hold 97 (by kernel_rfl)
      have f98 := hold 98 (by kernel_rfl)
      have f99 := hold 99 (by kernel_rfl)
      have f100 := hold 100 (by kernel_rfl)
      have f101 := hold 101 (by kernel_rfl)
      have f102 := hold 102 (by kernel_rfl)
      have f103 := hold 103 (by kernel_rfl)
      have f104 := hold 104 (by kernel_rfl)
      have f105 := hold 105 (by kernel_rfl)
      have f106 := hold 106 (by kernel_rfl)
      have f107 := hold 107 (by kernel_rfl)
      have f108 := hold 108 (by kernel_rfl)
      have f109 := hold 109 (by kernel_rfl)
      have f110 := hold 110 (by kernel_rfl)
      have f111 := hold 111 (by kernel_rfl)
      have f112 := hold 112 (by kernel_rfl)
      have f113 := hold 113 (by kernel_rfl)
      have f114 := hold 114 (by kernel_rfl)
      have f115 := hold 115 (by kernel_rfl)
      have f116 := hold 116 (by kernel_rfl)
      have f117 := hold 117 (by kernel_rfl)
      have f118 := hold 118 (by kernel_rfl)
      have f119 := hold 119 (by kernel_rfl)
      have f120 := hold 120 (by kernel_rfl)
      have f121 := hold 121 (by kernel_rfl)
      have f122 := hold 122 (by kernel_rfl)
      have f123 := hold 123 (by kernel_rfl)
      have f124 := hold 124 (by kernel_rfl)
      have f125 := hold 125 (by kernel_rfl)
      have f126 := hold 126 (by kernel_rfl)
      have f127 := hold 127 (by kernel_rfl)
      have f128 := hold 128 (by kernel_rfl)
      have f129 := hold 129 (by kernel_rfl)
      have f130 := hold 130 (by kernel_rfl)
      have hB : b = _ := act_list b (show b.tmps.size = 131 from hsz) hdf
      rw [hB]
      simp only [List.range, List.range.loop, List.map_cons, List.map_nil, f0, f1, f2, f3, f4, f5, f6, f9, f10, f11, f12, f13, f14, f15, f16, f17, f18, f19, f20, f21, f22, f23, f24, f25, f26, f27, f28, f29, f46, f47, f48, f49, f50, f51, f52, f53, f54, f55, f56, f57, f58, f59, f60, f61, f62, f63, f64, f65, f66, f67, f68, f69, f70, f71, f72, f73, f74, f75, f76, f77, f78, f79, f80, f81, f82, f83, f84, f85, f86, f87, f88, f89, f90, f91, f92, f93, f94, f95, f96, f97, f98, f99, f100, f101, f102, f103, f104, f105, f106, f107, f108, f109, f110, f111, f112, f113, f114, f115, f116, f117, f118, f119, f120, f121, f122, f123, f124, f125, f126, f127, f128, f129, f130]
      generalize sl b 7 = v7, sl b 8 = v8, sl b 30 = v30, sl b 31 = v31, sl b 32 = v32, sl b 33 = v33, sl b 34 = v34, sl b 35 = v35, sl b 36 = v36, sl b 37 = v37, sl b 38 = v38, sl b 39 = v39, sl b 40 = v40, sl b 41 = v41, sl b 42 = v42, sl b 43 = v43, sl b 44 = v44, sl b 45 = v45 at p1 p2 ⊢
      simp only [sl, List.getElem?_toArray, List.getElem?_cons_succ, List.getElem?_cons_zero, Option.getD_some]
      clear hB hold hsz hdf hF f0 f1 f2 f3 f4 f5 f6 f9 f10 f11 f12 f13 f14 f15 f16 f17 f18 f19 f20 f21 f22 f23 f24 f25 f26 f27 f28 f29 f46 f47 f48 f49 f50 f51 f52 f53 f54 f55 f56 f57 f58 f59 f60 f61 f62 f63 f64 f65 f66 f67 f68 f69 f70 f71 f72 f73 f74 f75 f76 f77 f78 f79 f80 f81 f82 f83 f84 f85 f86 f87 f88 f89 f90 f91 f92 f93 f94 f95 f96 f97 f98 f99 f100 f101 f102 f103 f104 f105 f106 f107 f108 f109 f110 f111 f112 f113 f114 f115 f116 f117 f118 f119 f120 f121 f122 f123 f124 f125 f126 f127 f128 f129 f130
      obtain ⟨g, cap, rfl, hgB, hgs, hgc⟩ := own_slice p2 (by omega)
      have cy := cell_below hR.bel hcy (block_lt hcy)
      have hlast : w1.cell? ⟨g, m, none⟩ = some (.int .i64 s4) := own_cell p2 m _ (by
        have : zs.length = m := by have := hown2.1; simpa using this
        simp [this])
      have hfz := own_frozen p2 m
      have hst := p2.stored m
      have hbel := hR.bel
      clear hown1 hown2 hR0 hR
      by_cases h9 : s9 = 0
      · subst h9
        by_cases hr : m < len2
        · obtain ⟨r, hra, hcr⟩ := w2.2 m hr
          subst hra
          have cr := cell_below hbel hcr (block_lt hcr)
          have hi2 : (m : Int) < len2 := by omega
          generalize z2.getD m 0 = rv at *
          go_wp2_with (first
            | (go_at_call 10; refine (k9 _).mono ?_; rintro e w1 ⟨rfl, rfl⟩))
          go_roundw
          case rel =>
            refine ⟨m + 1, ss ++ [nm], (zs ++ [s4]).set m rv, by omega, by omega, by omega, by go_num, own_beside p1 p2 (by decide) (hst _).2, ?_, hbel.setCell (p := ⟨g, m, none⟩) hgB _⟩
            have := (hst (.int .i64 rv)).1
            rw [← List.map_set] at this
            exact this
          case measure => simp [intOf]; omega
        · have hi2 : decide ((m : Int) < len2) = false := by simp; omega
          go_wp2_with (first
            | (go_at_call 10; refine (k9 _).mono ?_; rintro e w1 ⟨rfl, rfl⟩))
          go_roundw
          case rel => exact ⟨m + 1, ss ++ [nm], zs ++ [s4], by omega, by omega, by omega, by go_num, p1, p2, hbel⟩
          case measure => simp [intOf]; omega
      · have h9' : (s9 == 0) = false := by simp [h9]
        go_wp2_with (first
          | (go_at_call 10; refine (k9 _).mono ?_; rintro e w1 ⟨rfl, rfl⟩))
        go_roundw
        case rel => exact ⟨m + 1, ss ++ [nm], zs ++ [s4], by omega, by omega, by omega, by go_num, p1, p2, hbel⟩
        case measure => simp [intOf]; omega
  · obtain ⟨b1, c1, rfl⟩ := slice_of_own hown1
    obtain ⟨b2, c2, rfl⟩ := slice_of_own hown2
    obtain ⟨hs, hl⟩ := strs_own hown1 (by omega)
    obtain ⟨hzr, hzl⟩ := ints_own hown2 (by unfold maxLen; omega)
    have hex : ¬ ((m : Int) < len0) ∨ ((m : Int) < len0 ∧ ¬ ((m : Int) < len1)) ∨ ((m : Int) < len0 ∧ (m : Int) < len1 ∧ ¬ ((m : Int) < 12)) := by omega
    clear hown1 hown2 w0 w1 w2
    rcases Nat.eq_zero_or_pos m with rfl | hpos
    · have kB := fun W (hb : Below wr.heap.size wr W) => best_any b1 b2 c1 c2 0 ss zs (-1) W (hs.later hb) (hzr.later hb) hl rfl
      have kR := fun W (hb : Below wr.heap.size wr W) => rBest_any b1 b2 c1 c2 0 ss zs (-1) W (hs.later hb) (hzr.later hb) hl rfl
      replace hex : ¬ (((0 : Nat) : Int) < len0) ∨ (((0 : Nat) : Int) < len0 ∧ ¬ (((0 : Nat) : Int) < len1)) := by omega
      rcases hex with h1 | ⟨h1, h2⟩
      all_goals
        clear hs hzr hl hzl
        go_wp2_with (first
          | (go_at_call 11; refine (kB _ (Below.refl _ _)).mono ?_; rintro e w5 ⟨rfl, hb5⟩)
          | (go_at_call 12; refine (kR _ hb5).mono ?_; rintro e w6 ⟨rfl, hb6⟩))
        go_ret
        exact ⟨rfl, fin hb6 (fin hb5 hbr)⟩
    · obtain ⟨q, e1, e2, e3, e4⟩ := bst_prop ss zs m hpos
      have kB := fun W (hb : Below wr.heap.size wr W) => best_any b1 b2 c1 c2 m ss zs q W (hs.later hb) (hzr.later hb) hl e1
      have kR := fun W (hb : Below wr.heap.size wr W) => rBest_any b1 b2 c1 c2 m ss zs q W (hs.later hb) (hzr.later hb) hl e1
      have hm1 : ¬ (m : Int) = 0 := by omega
      have hm2 : ((m : Int) == 0) = false := by simp; omega
      rcases hex with h1 | ⟨h1, h2⟩ | ⟨h1, h2, h3⟩
      all_goals
        go_wp2_with (first
          | (go_at_call 11; refine (kB _ (Below.refl _ _)).mono ?_; rintro e w5 ⟨rfl, hb5⟩)
          | (go_at_call 12; refine (kR _ hb5).mono ?_; rintro e w6 ⟨rfl, hb6⟩))
        have hb7 := fin hb6 hb5
        go_loopw [11] (fun i wi => ∃ k : Nat, k ≤ m ∧ i = .int .i64 k ∧ Below wr.heap.size wr wi) (fun i _ => m - (intOf i).toNat)
        case atStart => exact ⟨0, Nat.zero_le _, rfl, hb7⟩
        case round =>
          obtain ⟨k, hk, rfl, hbi⟩ := hrel
          by_cases hlt : k < m
          · obtain ⟨x, hx, cx⟩ := (hs.later hbi).2 k (by omega)
            subst hx
            obtain ⟨x', hx', cx'⟩ := (hs.later hbi).2 q (by omega)
            obtain rfl : x = x' := by simpa using hx'
            obtain ⟨y, hy, cy⟩ := (hzr.later hbi).2 k hlt
            subst hy
            obtain ⟨y', hy', cy'⟩ := (hzr.later hbi).2 q e2
            obtain rfl : y = y' := by simpa using hy'
            have g1 := e3 k hlt
            have g2 := e4 k
            unfold betAt at g1 g2
            generalize ss.getD k ByteArray.empty = s1 at *
            generalize ss.getD q ByteArray.empty = s2 at *
            generalize zs.getD k 0 = t1 at *
            generalize zs.getD q 0 = t2 at *
            have i1 : (0 : Int) ≤ (k : Int) := by omega
            have i2 : (k : Int) < (m : Int) := by omega
            have i3 : (0 : Int) ≤ (q : Int) := by omega
            have i4 : (q : Int) < (m : Int) := by omega
            have d1 : ¬ t2 < t1 := by
              intro h
              have : betB s1 t1 s2 t2 = true := (bet_iff _ _ _ _).2 (.inl h)
              rw [g1] at this
              cases this
            have d1' : decide (t2 < t1) = false := by simp [d1]
            by_cases d2 : t1 = t2
            · subst d2
              have d3 : Op.bytesLess s1.toList s2.toList = false := by
                cases hx : Op.bytesLess s1.toList s2.toList with
                | false => rfl
                | true =>
                  have : betB s1 t1 s2 t1 = true := (bet_iff _ _ _ _).2 (.inr ⟨rfl, hx⟩)
                  rw [g1] at this
                  cases this
              cases d4 : (s1.toList == s2.toList)
              · clear g1 g2 kB kR hs hzr e1 e3 e4 hx' hy'
                go_wp2
                go_quiet (fail)
                go_wp2
                go_roundw
                case rel => exact ⟨k + 1, hlt, by go_num, below_drewN hbi _⟩
                case measure => simp [intOf]; omega
              · have d5 : decide ((k : Int) < (q : Int)) = false := by
                  simp only [decide_eq_false_iff_not]
                  intro h
                  have h1 := g2 (by omega)
                  rw [bet_iff] at h1
                  rcases h1 with h1 | ⟨_, h1⟩
                  · omega
                  · rw [← eq_of_beq d4, bl_irr] at h1
                    cases h1
                have d6 : (q : Int) ≤ (k : Int) := by simpa using d5
                clear g1 g2 kB kR hs hzr e1 e3 e4 hx' hy'
                go_wp2
                go_quiet (fail)
                go_wp2
                all_goals first
                  | (exfalso; omega)
                  | (go_roundw
                     case rel => exact ⟨k + 1, hlt, by go_num, below_drewN hbi _⟩
                     case measure => simp [intOf]; omega)
            · have d2' : (t1 == t2) = false := by simp [d2]
              clear g1 g2 kB kR hs hzr e1 e3 e4 hx' hy'
              go_wp2
              go_quiet (fail)
              go_wp2
              go_roundw
              case rel => exact ⟨k + 1, hlt, by go_num, below_drewN hbi _⟩
              case measure => simp [intOf]; omega
          · obtain rfl : k = m := by omega
            clear kB kR
            go_wp2
            go_ret
            exact ⟨rfl, fin hbi hbr⟩

end Go.Proofs.Ytmkbllkfipcghaa
