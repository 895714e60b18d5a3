/- The walk of SpecEight. -/
import Derived.Test.YtgcicillmljglabH
import Derived.Laws.IdiomStrings
import Derived.Laws.OwnMore
namespace Go.Proofs.Ytgcicillmljglab
open Go.RowKit Go.Maps
attribute [local go_sem ↓] Go.wp_at_zero Go.wp_at_succ

/-- The pod of place i. -/
def pod8 (i : Nat) : PodT := ⟨⟨#[112, UInt8.ofNat (97 + i)]⟩, 1 + (i : Int) % 2, 0, 0, none, 0, [], none, 0, [], false⟩
/-- The first k pods. -/
def pods8 : Nat → List PodT
  | 0 => []
  | k + 1 => pods8 k ++ [pod8 k]

theorem pods8_length : ∀ k, (pods8 k).length = k
  | 0 => rfl
  | k + 1 => by simp [pods8, pods8_length k]
theorem pods8_ok (w : World) : ∀ k, ∀ p ∈ pods8 k, p.Ok w
  | 0, p, h => by simp [pods8] at h
  | k + 1, p, h => by
    simp only [pods8, List.mem_append, List.mem_singleton] at h
    rcases h with h | rfl
    · exact pods8_ok w k p h
    · exact ⟨strs_nil w, strs_nil w⟩

theorem conv_byte (w : World) (m : Nat) (hm : m < 100) : (convert 38 9 (.slice (some ⟨w.heap.size, 0, none⟩) 1 1)).run Try.prog (w.alloc (.cells #[.int .u8 (97 + (m : Int))] 5)) =
    .ok (.string ⟨#[UInt8.ofNat (97 + m)]⟩) (w.alloc (.cells #[.int .u8 (97 + (m : Int))] 5)) := by
  refine run_convert_bytes_back (P := Try.prog) (w.alloc (.cells #[.int .u8 (97 + (m : Int))] 5)) 38 9 5 ⟨w.heap.size, 0, none⟩ 1 [UInt8.ofNat (97 + m)] Try.underlying38 Try.underlying5 Try.underlying9 ?_
  intro j hj
  have : j = 0 := by simp at hj; omega
  subst this
  simp [Addr.add]
  omega

theorem gang8 : ∀ k, k < 11 → gangE 5 (pods8 k) 2 = if k < 1 ∨ 8 < k then 3 else 0 := by decide +kernel
theorem twice8 : ∀ k, k < 9 → ∀ i, i < k → ∀ j, j < k → gangE 5 ((pods8 k).set i { pod8 i with name := (pod8 j).name }) 2 = if i = j then 0 else 4 := by decide +kernel
theorem pods8_get : ∀ (k i : Nat), i < k → (pods8 k)[i]? = some (pod8 i)
  | 0, i, h => by omega
  | k + 1, i, h => by
    unfold pods8
    by_cases e : i < k
    · rw [List.getElem?_append_left (by rw [pods8_length]; exact e)]
      exact pods8_get k i e
    · have : i = k := by omega
      subst this
      rw [List.getElem?_append_right (by rw [pods8_length]; omega), pods8_length]
      simp

theorem gang_on (id S : Int) (a : Option Addr) (c n : Nat) (l : List PodT) (e0 : Int) (w0 w W : World) (hb : Below w0.heap.size w0 w) (h : Below w.heap.size w W) (hl : l.length = n) (hnc : n ≤ c) (hP : Pods w a l) (he : gangE id l S = e0) :
    Calls Try.prog 10 #[.agg #[.int .i64 id, .slice a n c], .int .i64 S] W fun e w' => e = .returned (.int .i64 e0) ∧ Below w0.heap.size w0 w' ∧ Below w.heap.size w w' := by
  subst he
  exact (gang_any id S a c n l W hl hnc (hP.later h)).mono fun _ _ k => ⟨k.1, (hb.trans (h.mono hb.size)).trans (k.2.mono (hb.trans (h.mono hb.size)).size), h.trans (k.2.mono h.size)⟩

set_option maxRecDepth 100000 in
set_option maxHeartbeats 4000000 in
theorem specEight_walk (n1 n2 n3 : Int) (w : World) :
    Calls Try.prog 4 #[.int .i64 n1, .int .i64 n2, .int .i64 n3] w fun e w' => e = .returned (.bool true) ∧ Below w.heap.size w w' := by
  obtain ⟨i0, hi, hz0, hz1, hz2⟩ := info_parts infoPod
  obtain ⟨K, hK⟩ : ∃ K : Nat, n1 % 11 = K := ⟨(n1 % 11).toNat, by omega⟩
  have hK2 : K < 11 := by omega
  have h0 := Below.refl w.heap.size w
  go_enter Try.func4, Try.ntmps4
  go_wp2_with (first
    | (go_at_call 6; refine (known_on _ _ (by assumption)).mono ?_; rintro e w1 ⟨rfl, hb1⟩)
    | (go_at_call 7; refine (within_any _ _ _ (by decide) (by decide) hK _).mono ?_; rintro e w1 ⟨rfl, rfl⟩))
  go_loopw [9] (fun i wr => ∃ m : Nat, m ≤ K ∧ i = .int .i64 m ∧ ∃ v, GBox wr w1.heap.size 5 v ∧ wr.ownsRow (w1.heap.size + 1) 28 7 v m (flat (pods8 m)) ∧ Below w.heap.size w wr) (fun i _ => K - (intOf i).toNat)
  case atStart => exact ⟨0, Nat.zero_le _, rfl, _, GBox.new _ _ _, World.ownsRow_nil _ _ _ _, up hb1 _⟩
  case round =>
    obtain ⟨m, hm, rfl, v, hG, hrow, hbw⟩ := hrel
    have hws := hG.lt
    have hcv := hG.cell1
    have hc0 := hG.cell0
    by_cases hlt : m < K
    · have hconv := conv_byte wr m (by omega)
      obtain ⟨t, ht⟩ : ∃ t : ByteArray, (⟨#[UInt8.ofNat (97 + m)]⟩ : ByteArray) = t := ⟨_, rfl⟩
      rw [ht] at hconv
      obtain ⟨s, hs⟩ : ∃ s : ByteArray, (⟨#[112]⟩ : ByteArray) ++ t = s := ⟨_, rfl⟩
      have hpod : Hid ((pod8 m).cells = [.string s, .int .i64 (1 + (m : Int) % 2), .int .i64 0, .int .i64 0, .slice none 0 0, .slice none 0 0, .bool false]) := by
        show _ = _
        rw [← hs, ← ht]
        rfl
      have ht1 : t.size = 1 := by rw [← ht]; rfl
      clear ht
      have hne : some w1.heap.size ≠ v.ownBlock := fun e => by have := (hrow.lt _ e.symm).1; omega
      go_wp2_with (first
        | (at_builtin; refine wpList_append_own _ rfl _ _ 35 rfl (w1.heap.size + 1) 28 i0 _ 7 96 Try.underlying35 hi hz0 hz1 hz2 rfl (by decide) _ _ _ rfl ((hrow.alloc _).alloc _) ⟨_, 0, none⟩ 1 1 [.string s, .int .i64 (1 + (m : Int) % 2), .int .i64 0, .int .i64 0, .slice none 0 0, .slice none 0 0, .bool false] rfl rfl (cells_new _ _ _ _ (by simp)) (by intro u hu; simp only [List.mem_cons, List.not_mem_nil, or_false] at hu; rcases hu with rfl | rfl | rfl | rfl | rfl | rfl | rfl <;> rfl) (by unfold maxLen; omega) (by omega) (by simp; omega) ?_
           intro v' w2 hown' hgrow hnil
           obtain ⟨g, cap, rfl, hg1, hg2, _⟩ := own_slice hown' (by omega)
           have hG2 := ((hG.grown (World.grownBy_alloc _ _ _) hne).grown (World.grownBy_alloc _ _ _) hne).grown hgrow hne
           have hcv2 := hG2.cell1
           have hfz2 := hG2.frozen1 1)
        | go_in)
      go_roundw
      case rel =>
        refine ⟨m + 1, hlt, by go_num, _, hG2.set _, ?_, ?_⟩
        · rw [pods8, flat_append, flat_one, hpod.out]
          exact ownsRow_setCell_below hown' (by simp) _
        · exact ((up (up hbw _) _).grown hgrow (up (up hbw _) _).size (fun j hj => by have := (hrow.lt j hj).1; have := hb1.size; omega)).setCell hb1.size _
      case measure => simp [intOf]; omega
    · have e1 : m = K := by omega
      subst e1
      obtain ⟨a, cap, rfl, -, hcap, hP, -, hloc⟩ := pods_of_own hrow (pods8_ok wr m) (by rw [pods8_length]; omega)
      have kg := fun W (h : Below wr.heap.size wr W) => gang_on 5 2 a cap m (pods8 m) _ w wr W hbw h (pods8_length m) hcap hP (gang8 m hK2)
      have kG := fun W (h : Below wr.heap.size wr W) => (hG.later h).cell1
      have kG0 := fun W (h : Below wr.heap.size wr W) => (hG.later h).cell0
      have hr := Below.refl wr.heap.size wr
      by_cases hsm : m < 1 ∨ 8 < m
      · simp only [hsm, if_true] at kg
        rcases hsm with hsm | hsm
        · have hm0 : m = 0 := by omega
          subst hm0
          go_wp2_with (go_at_call 10; refine (kg _ (by assumption)).mono ?_; rintro e w4 ⟨rfl, hb4, hr4⟩; have x1 := kG _ hr4; have x0 := kG0 _ hr4)
          go_ret
          exact ⟨rfl, by assumption⟩
        · have i1 : (8 : Int) < m := by omega
          have i2 : ¬ (m : Int) < 1 := by omega
          go_wp2_with (go_at_call 10; refine (kg _ (by assumption)).mono ?_; rintro e w4 ⟨rfl, hb4, hr4⟩; have x1 := kG _ hr4; have x0 := kG0 _ hr4)
          go_ret
          exact ⟨rfl, by assumption⟩
      · simp only [hsm, if_false] at kg
        have i1 : ¬ (8 : Int) < m := by omega
        have i2 : ¬ (m : Int) < 1 := by omega
        obtain ⟨I, hI⟩ : ∃ I : Nat, n2 % (m : Int) = I := ⟨(n2 % (m : Int)).toNat, by have := Int.emod_nonneg n2 (show (m : Int) ≠ 0 by omega); omega⟩
        obtain ⟨J, hJ⟩ : ∃ J : Nat, n3 % (m : Int) = J := ⟨(n3 % (m : Int)).toNat, by have := Int.emod_nonneg n3 (show (m : Int) ≠ 0 by omega); omega⟩
        have hIm : I < m := by have := Int.emod_lt_of_pos n2 (show (0 : Int) < m by omega); omega
        have hJm : J < m := by have := Int.emod_lt_of_pos n3 (show (0 : Int) < m by omega); omega
        go_wp2_with (first
          | (go_at_call 10; refine (kg _ (by assumption)).mono ?_; rintro e w4 ⟨rfl, hb4, hr4⟩; have x1 := kG _ hr4; have x0 := kG0 _ hr4)
          | (go_at_call_of 7 (Value.int .i64 n2); refine (within_any _ _ _ (by omega) (by omega) hI _).mono ?_; rintro e w4 ⟨rfl, rfl⟩)
          | (go_at_call_of 7 (Value.int .i64 n3); refine (within_any _ _ _ (by omega) (by omega) hJ _).mono ?_; rintro e w4 ⟨rfl, rfl⟩))
        obtain ⟨g, cap', ha, hg1, hg2, _⟩ := own_slice hrow (by omega)
        obtain ⟨rfl, rfl⟩ : a = some ⟨g, 0, none⟩ ∧ cap = cap' := by simpa using ha
        clear ha
        have hrow4 := own_keep hrow hr4
        have hG4 := hG.later hr4
        have g4 := hr4.size
        have xJ : w4.cell? ⟨g, J * 7, none⟩ = some (.string (pod8 J).name) := own_cell hrow4 (J * 7) _ (by have := flat_get (pods8 m) J 0 _ (pods8_get m J hJm) (by omega); rw [Nat.add_zero] at this; exact this)
        have xI : w4.cell? ⟨g, I * 7, none⟩ = some (.string (pod8 I).name) := own_cell hrow4 (I * 7) _ (by have := flat_get (pods8 m) I 0 _ (pods8_get m I hIm) (by omega); rw [Nat.add_zero] at this; exact this)
        obtain ⟨sJ, hsJ⟩ : ∃ s, (pod8 J).name = s := ⟨_, rfl⟩
        obtain ⟨sI, hsI⟩ : ∃ s, (pod8 I).name = s := ⟨_, rfl⟩
        rw [hsJ] at xJ
        rw [hsI] at xI
        have z1 : (0 : Int) ≤ (I : Int) := by omega
        have z2 : (I : Int) < m := by omega
        have z3 : (0 : Int) ≤ (J : Int) := by omega
        have z4 : (J : Int) < m := by omega
        have f1 := own_frozen hrow4 (I * 7)
        have hrow5 := (hrow4.stored (I * 7) (.string sJ)).1
        rw [← flat_set (pods8 m) I (pod8 I) sJ (pods8_get m I hIm)] at hrow5
        have hb5 : Below w.heap.size w (w4.setCell ⟨g, I * 7, none⟩ (.string sJ)) := hb4.setCell (by have := hb1.size; simp; omega) _
        have hG5 := hG4.other (a := ⟨g, I * 7, none⟩) (by simp; omega) (.string sJ)
        have k1 : (w4.setCell ⟨g, I * 7, none⟩ (.string sJ)).drew.cell? ⟨w1.heap.size, 1, none⟩ = some (.slice (some ⟨g, 0, none⟩) m cap) := hG5.cell1
        have k2 : (w4.setCell ⟨g, I * 7, none⟩ (.string sJ)).drew.cell? ⟨g, J * 7, none⟩ = some (.string sJ) := by
          show (w4.setCell ⟨g, I * 7, none⟩ (.string sJ)).cell? ⟨g, J * 7, none⟩ = some (.string sJ)
          by_cases e : I = J
          · subst e; exact World.cell?_setCell_same _ _ _ xI
          · rw [World.cell?_setCell_other _ _ _ _ (by intro h; injection h with _ h2 _; omega)]; exact xJ
        have k3 : (w4.setCell ⟨g, I * 7, none⟩ (.string sJ)).drew.frozen? ⟨g, I * 7, none⟩ = false := by
          show (w4.setCell ⟨g, I * 7, none⟩ (.string sJ)).frozen? ⟨g, I * 7, none⟩ = false
          rw [World.frozen?_setCell]; exact f1
        have y1 : w4.drew.cell? ⟨w1.heap.size, 1, none⟩ = some (.slice (some ⟨g, 0, none⟩) m cap) := hG4.cell1
        have y2 : w4.drew.cell? ⟨g, J * 7, none⟩ = some (.string sJ) := xJ
        have y3 : w4.drew.frozen? ⟨g, I * 7, none⟩ = false := f1
        go_region_held3 (fun w' => w'.cell? ⟨w1.heap.size, 1, none⟩ = some (.slice (some ⟨g, 0, none⟩) m cap) ∧ w'.cell? ⟨g, J * 7, none⟩ = some (.string sJ) ∧ w'.frozen? ⟨g, I * 7, none⟩ = false) (exact ⟨by assumption, by assumption, by assumption⟩) (fail)
        obtain ⟨w5, hw5⟩ : ∃ w5, w5 = (w4.setCell ⟨g, I * 7, none⟩ (.string sJ)).drew := ⟨_, rfl⟩
        rw [← hw5]
        have hb6 : Below w.heap.size w w5 := by rw [hw5]; exact Below.drew hb5
        have hG6 : GBox w5 w1.heap.size 5 (.slice (some ⟨g, 0, none⟩) m cap) := by rw [hw5]; exact hG5
        have hrow6 := own_keep hrow5 (Below.drew (Below.refl _ _))
        rw [← hw5] at hrow6
        have hP6 := pods_of_own hrow6 (fun p hp => by
          rcases List.mem_or_eq_of_mem_set hp with hp | hp
          · exact pods8_ok _ m p hp
          · subst hp; exact ⟨strs_nil _, strs_nil _⟩) (by rw [List.length_set, pods8_length]; omega)
        obtain ⟨a5, cap5, ha5, hl5, hcap5, hP6, -, -⟩ := hP6
        obtain ⟨rfl, rfl⟩ : a5 = some ⟨g, 0, none⟩ ∧ cap5 = cap := by simp at ha5; exact ⟨ha5.1.symm, ha5.2.symm⟩
        have hr6 := Below.refl w5.heap.size w5
        have ht8 := twice8 m (by omega) I hIm J hJm
        rw [hsJ] at ht8
        have kG5 := fun W (h : Below w5.heap.size w5 W) => (hG6.later h).cell1
        have kG50 := fun W (h : Below w5.heap.size w5 W) => (hG6.later h).cell0
        have z50 := hG6.cell0
        have z51 := hG6.cell1
        by_cases hIJ : I = J
        · have kg5 := fun W (h : Below w5.heap.size w5 W) => gang_on 5 2 _ cap5 m _ 0 w _ W hb6 h hl5 hcap5 hP6 (by rw [ht8, if_pos hIJ])
          have b1 : ((I : Int) != J) = false := by simp [hIJ]
          clear ht8 hP6 hrow6 hw5 hG6 hrow5 hb5 hG5 k1 k2 k3 y1 y2 y3 xI xJ hrow4 hG4 kg kG kG0 f1 hP hG hrow hIJ hr4 hb4 hsI hsJ ha5 hcv hc0 x1 x0
          go_wp2_with (go_at_call 10; refine (kg5 _ (by assumption)).mono ?_; rintro e w6 ⟨rfl, hb6, hr6⟩; have x61 := kG5 _ hr6; have x60 := kG50 _ hr6)
          go_ret
          exact ⟨rfl, by assumption⟩
        · have kg5 := fun W (h : Below w5.heap.size w5 W) => gang_on 5 2 _ cap5 m _ 4 w _ W hb6 h hl5 hcap5 hP6 (by rw [ht8, if_neg hIJ])
          have b1 : ((I : Int) != J) = true := by simp; omega
          clear ht8 hP6 hrow6 hw5 hG6 hrow5 hb5 hG5 k1 k2 k3 y1 y2 y3 xI xJ hrow4 hG4 kg kG kG0 f1 hP hG hrow hr4 hb4 hsI hsJ ha5 hcv hc0 x1 x0
          go_wp2_with (go_at_call 10; refine (kg5 _ (by assumption)).mono ?_; rintro e w6 ⟨rfl, hb6, hr6⟩; have x61 := kG5 _ hr6; have x60 := kG50 _ hr6)
          go_ret
          exact ⟨rfl, by assumption⟩

end Go.Proofs.Ytgcicillmljglab
