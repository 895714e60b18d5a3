/- The walk of ScoreEven. -/
import Derived.Test.YtmkbllkfipcghabDoorKN
import Derived.Test.YtmkbllkfipcghabDoorSO
import Derived.Test.YtmkbllkfipcghabDoorOW
namespace Go.Proofs.YtmkbllkfipcghabDoor
open Go.RowKit Go.Maps
set_option linter.unusedSimpArgs false

/-- The name of a number. -/
def nmE (q : Nat) : ByteArray := ⟨#[110, UInt8.ofNat (48 + q)]⟩
theorem pre_n (x : UInt8) : (⟨#[110]⟩ : ByteArray) ++ ⟨#[x]⟩ = ⟨#[110, x]⟩ := by
  apply ByteArray.ext
  simp
/-- The names from the greatest number down. -/
def lst (K : Nat) : Nat → List ByteArray
  | 0 => []
  | m + 1 => lst K m ++ [nmE (K - m)]
theorem lst_len (K : Nat) : ∀ m, (lst K m).length = m
  | 0 => rfl
  | m + 1 => by simp [lst, lst_len K m]
theorem lst_get (K : Nat) : ∀ m j, j < m → (lst K m).getD j ByteArray.empty = nmE (K - j)
  | 0, j, h => by omega
  | m + 1, j, h => by
    rw [lst]
    rcases Nat.lt_or_ge j m with h1 | h1
    · have := lst_get K m j h1
      have hl := lst_len K m
      simp only [List.getD_eq_getElem?_getD] at this ⊢
      rw [List.getElem?_append_left (by omega)]
      exact this
    · obtain rfl : j = m := by omega
      have hl := lst_len K j
      simp only [List.getD_eq_getElem?_getD]
      rw [List.getElem?_append_right (by omega), hl]
      simp
theorem nmE_less : ∀ q : Fin 9, Op.bytesLess (nmE q.val).toList (nmE (q.val + 1)).toList = true := by decide +kernel

/-- Of names that fall, with the same score, the last one is the best. -/
theorem bst_even (K : Nat) (z : Int) (hK : K ≤ 9) : ∀ m, m ≤ K → 0 < m → bstAt (lst K K) (List.replicate K z) m = ((m - 1 : Nat) : Int)
  | 0, _, h => by omega
  | 1, _, _ => by simp [bstAt]
  | m + 2, hm, _ => by
    have ih := bst_even K z hK (m + 1) (by omega) (by omega)
    rw [bstAt, ih]
    have e1 : (m + 1 - 1 : Nat) = m := by omega
    rw [e1, if_neg (by omega), Int.toNat_natCast]
    have e2 : (List.replicate K z).getD (m + 1) 0 = z := by simp [show m + 1 < K by omega]
    have e3 : (List.replicate K z).getD m 0 = z := by simp [show m < K by omega]
    rw [lst_get K K (m + 1) (by omega), lst_get K K m (by omega), e2, e3]
    have hl := nmE_less ⟨K - (m + 1), by omega⟩
    have e4 : K - (m + 1) + 1 = K - m := by omega
    simp only [e4] at hl
    simp [betB, hl]

/-- What all operations of a round leave there. -/
structure EvR (w wr : World) (C B : Nat) (x y : Int) (w1 : World) : Prop where
  box : Box w1 C #[.int .i64 x, .int .i64 y] 25
  bel : Below w.heap.size w w1
  size : B ≤ w1.heap.size
  tab : Tab w1
  grow : wr.heap.size ≤ w1.heap.size
  cb : C < B
  wb : w.heap.size ≤ B
  tb : Tab w
theorem EvR.later {w wr : World} {C B : Nat} {x y : Int} {w1 w2 : World} (h : EvR w wr C B x y w1) (hb : Below w1.heap.size w1 w2) : EvR w wr C B x y w2 :=
  ⟨h.box.later hb, fin hb h.bel, Nat.le_trans h.size hb.size, h.tab.later hb, Nat.le_trans h.grow hb.size, h.cb, h.wb, h.tb⟩
theorem EvR.app {w wr : World} {C B : Nat} {x y : Int} {w1 w2 : World} {e : TypeId} {v : Value} {n : Nat} {xs : List Value} (h : EvR w wr C B x y w1) (ho : w1.ownsRow B e 1 v n xs) (hg : w1.grownBy w2 v.ownBlock) : EvR w wr C B x y w2 := by
  have hbel : Below w.heap.size w w2 := h.bel.grown hg h.bel.size (fun j hj => Nat.le_trans h.wb (own_lt ho j hj))
  exact ⟨own_box h.box ho h.cb hg, hbel, Nat.le_trans h.size hg.size, h.tb.later hbel, Nat.le_trans h.grow hg.size, h.cb, h.wb, h.tb⟩
theorem EvR.app1 {w wr : World} {C B : Nat} {x y : Int} {w1 w2 : World} {v : Value} {n : Nat} {xs : List ByteArray} (h : EvR w wr C B x y w1) (ho : w1.ownsRow B 9 1 v n (xs.map Value.string)) (hg : w1.grownBy w2 v.ownBlock) : EvR w wr C B x y w2 := h.app ho hg
theorem EvR.app2 {w wr : World} {C B : Nat} {x y : Int} {w1 w2 : World} {v : Value} {n : Nat} {xs : List Int} (h : EvR w wr C B x y w1) (ho : w1.ownsRow B 3 1 v n (xs.map (Value.int .i64))) (hg : w1.grownBy w2 v.ownBlock) : EvR w wr C B x y w2 := h.app ho hg

def evF (WR : World) (B m q : Nat) (sv zv : Value) (ss : List ByteArray) (zs : List Int) (x y z mode m4 : Int) : Nat → Value → World → Prop
  | 0, r, _ => r = sv
  | 1, r, _ => r = .int .i64 q
  | 2, r, _ => r = .int .i64 (48 + q)
  | 3, r, _ => r = .int .u8 (48 + q)
  | 4, r, w1 => ∃ D, WR.heap.size ≤ D ∧ r = .slice (some ⟨D, 0, none⟩) 1 1 ∧ w1.cell? ⟨D, 0, none⟩ = some (.int .u8 (48 + q))
  | 5, r, _ => r = .string ⟨#[UInt8.ofNat (48 + q)]⟩
  | 6, r, _ => r = .string (nmE q)
  | 7, r, w1 => ∃ D, WR.heap.size ≤ D ∧ r = .slice (some ⟨D, 0, none⟩) 1 1 ∧ w1.cell? ⟨D, 0, none⟩ = some (.string (nmE q))
  | 8, r, w1 => w1.ownsRow B 9 1 r (m + 1) ((ss ++ [nmE q]).map Value.string)
  | 9, r, _ => r = zv
  | 10, r, _ => r = .int .i64 mode
  | 11, r, _ => r = .int .i64 m4
  | 12, r, _ => r = .agg #[.int .i64 x, .int .i64 y]
  | 13, r, _ => r = .agg #[.int .i64 0, .int .i64 0]
  | 14, r, _ => r = .agg #[.int .i64 1, .int .i64 0]
  | 15, r, _ => r = .int .i64 z
  | 16, r, w1 => ∃ D, WR.heap.size ≤ D ∧ r = .slice (some ⟨D, 0, none⟩) 1 1 ∧ w1.cell? ⟨D, 0, none⟩ = some (.int .i64 z)
  | 17, r, w1 => w1.ownsRow B 3 1 r (m + 1) ((zs ++ [z]).map (Value.int .i64))
  | 18, r, w1 => w1.ownsRow B 9 1 r (m + 1) ((ss ++ [nmE q]).map Value.string)
  | 19, r, w1 => w1.ownsRow B 3 1 r (m + 1) ((zs ++ [z]).map (Value.int .i64))
  | _, _, _ => True
def evS (B m : Nat) (sv zv : Value) (ss : List ByteArray) (zs : List Int) : Nat → World → World → Prop
  | 8, w1, w2 => w1.ownsRow B 9 1 sv m ((ss).map Value.string) ∧ w1.grownBy w2 sv.ownBlock
  | 17, w1, w2 => w1.ownsRow B 3 1 zv m ((zs).map (Value.int .i64)) ∧ w1.grownBy w2 zv.ownBlock
  | _, w1, w2 => Below w1.heap.size w1 w2
def evG (B m : Nat) (sv zv : Value) (ss : List ByteArray) (zs : List Int) : Nat → World → Prop
  | 8, w1 => w1.ownsRow B 9 1 sv m ((ss).map Value.string)
  | 17, w1 => w1.ownsRow B 3 1 zv m ((zs).map (Value.int .i64))
  | _, _ => True
theorem evS_else (B m : Nat) (sv zv : Value) (ss : List ByteArray) (zs : List Int) (i : Nat) (w1 w2 : World) (h1 : i ≠ 8) (h2 : i ≠ 17) (h : evS B m sv zv ss zs i w1 w2) : Below w1.heap.size w1 w2 := by
  unfold evS at h
  split at h
  · exact absurd rfl h1
  · exact absurd rfl h2
  · exact h

set_option maxRecDepth 100000 in
set_option maxHeartbeats 8000000 in
theorem scoreEven_walk (a b mode count : Int) (w : World) (hT : Tab w) :
    Calls Tryd.prog 3 #[.int .i64 a, .int .i64 b, .int .i64 mode, .int .i64 count] w fun e w' => e = .returned (.bool true) ∧ Below w.heap.size w w' := by
  obtain ⟨xa, hxa⟩ : ∃ k, a % 100 = k := ⟨_, rfl⟩
  obtain ⟨xb, hxb⟩ : ∃ k, b % 100 = k := ⟨_, rfl⟩
  obtain ⟨m4, hm4⟩ : ∃ k, mode % 4 = k := ⟨_, rfl⟩
  obtain ⟨kc, hkc⟩ : ∃ k : Nat, count % 9 = k := ⟨(count % 9).toNat, by omega⟩
  have ka := fun W => within6_any a 100 xa (by decide) (by decide) hxa W
  have kb := fun W => within6_any b 100 xb (by decide) (by decide) hxb W
  have k4 := fun W => within6_any mode 4 m4 (by decide) (by decide) hm4 W
  have kk := fun W => within6_any count 9 kc (by decide) (by decide) hkc W
  obtain ⟨x, hx⟩ : ∃ x, 1 + xa = x := ⟨_, rfl⟩
  obtain ⟨y, hy⟩ : ∃ x, 1 + xb = x := ⟨_, rfl⟩
  obtain ⟨z, hz⟩ : ∃ z, scoreV m4 (leftF x y 0 0 1 0) 3 = z := ⟨_, rfl⟩
  have kS := fun W hW => score_any m4 x y 0 0 1 0 3 z (by unfold Good; omega) (by decide) hz W hW
  have hk9 : kc < 9 := by omega
  have a0 : 0 ≤ xa := by omega
  have a1 : xa < 100 := by omega
  have b0 : 0 ≤ xb := by omega
  have b1 : xb < 100 := by omega
  clear hxa hxb hm4 hkc hz
  subst hx hy
  go_enter Tryd.func3, Tryd.ntmps3
  go_wp2_with (first
    | (go_at_call 4; refine (known_any _).mono ?_; rintro e w1 ⟨rfl, hb1⟩)
    | (go_at_call_of 5 (Value.int .i64 a); refine (ka _).mono ?_; rintro e w1 ⟨rfl, rfl⟩)
    | (go_at_call_of 5 (Value.int .i64 b); refine (kb _).mono ?_; rintro e w1 ⟨rfl, rfl⟩)
    | (go_at_call_of 5 (Value.int .i64 count); refine (kk _).mono ?_; rintro e w1 ⟨rfl, rfl⟩))
  obtain ⟨K, hK⟩ : ∃ K : Nat, kc + 1 = K := ⟨_, rfl⟩
  have hKi : (1 : Int) + (kc : Int) = (K : Int) := by omega
  have hK9 : K ≤ 9 := by omega
  have hK0 : 0 < K := by omega
  rw [hKi]
  clear hKi
  have hC := Box.new w1 #[.int .i64 (1 + xa), .int .i64 (1 + xb)] 25 rfl
  have hW := up hb1 (V (1 + xa) (1 + xb))
  have hCB : w1.heap.size < w1.heap.size + 1 := by omega
  have hwB : w.heap.size ≤ w1.heap.size + 1 := by have := hb1.size; omega
  have hsz : w1.heap.size + 1 ≤ (w1.alloc (V (1 + xa) (1 + xb))).heap.size := by simp
  generalize w1.alloc (V (1 + xa) (1 + xb)) = W0 at *
  obtain ⟨B, hB⟩ : ∃ B, w1.heap.size + 1 = B := ⟨_, rfl⟩
  rw [hB] at hCB hwB hsz
  generalize w1.heap.size = C at *
  generalize (1 : Int) + xa = x at *
  generalize (1 : Int) + xb = y at *
  clear a0 a1 b0 b1 ka kb kk hb1 hK hB
  go_loopw [10, 11, 13] (fun sv zv i wr => ∃ m : Nat, m ≤ K ∧ i = .int .i64 ((K : Int) - m) ∧ wr.ownsRow B 9 1 sv m ((lst K m).map Value.string) ∧ wr.ownsRow B 3 1 zv m ((List.replicate m z).map (Value.int .i64)) ∧ Box wr C #[.int .i64 x, .int .i64 y] 25 ∧ Below w.heap.size w wr ∧ B ≤ wr.heap.size) (fun _ _ i _ => (intOf i).toNat)
  case atStart => exact ⟨0, by omega, by simp, World.ownsRow_nil _ _ _ _, World.ownsRow_nil _ _ _ _, hC, hW, hsz⟩
  case round =>
  obtain ⟨m, hm, rfl, hown1, hown2, hCr, hbr, hBr⟩ := hrel
  by_cases hlt : m < K
  · obtain ⟨q, hq⟩ : ∃ q : Nat, K - m = q := ⟨_, rfl⟩
    have hqi : (K : Int) - m = (q : Int) := by omega
    have hq0 : 0 < q := by omega
    have hq9 : q < 10 := by omega
    have hqp : (0 : Int) < (q : Int) := by omega
    rw [hqi]
    obtain ⟨sv, hsv⟩ : ∃ v, u10 = v := ⟨_, rfl⟩
    obtain ⟨zv, hzv⟩ : ∃ v, u11 = v := ⟨_, rfl⟩
    rw [hsv] at hown1 ⊢
    rw [hzv] at hown2 ⊢
    obtain ⟨ss, hss⟩ : ∃ l, lst K m = l := ⟨_, rfl⟩
    obtain ⟨zs, hzs⟩ : ∃ l, List.replicate m z = l := ⟨_, rfl⟩
    rw [hss] at hown1
    rw [hzs] at hown2
    clear hsv hzv hqi
    have hR0 : EvR w wr C B x y wr.drew := ⟨hCr, hbr.drew, hBr, (hT.later hbr.drew), Nat.le_refl _, hCB, hwB, hT⟩
    go_upto_region 10 with fail
    refine wp_region_relyY (fun w1 => EvR w wr C B x y w1) (evS B m sv zv ss zs) (evF wr B m q sv zv ss zs x y z mode m4) (evG B m sv zv ss zs) (by kernel_rfl) (by kernel_rfl) hR0 ?gs ?keep ?give ?step ?rest
    case gs =>
      intro c
      unfold evG
      split
      · exact hown1
      · exact hown2
      · trivial
    case keep =>
      intro i j oj r w1 w2 hij hj hw hR1 hS hF
      by_cases h1 : i = 8
      · subst h1
        obtain ⟨hso, hsg⟩ := hS
        unfold evF at *
        split at hF
        all_goals first
          | exact hF
          | (obtain ⟨D, hD, hr, hc⟩ := hF
             exact ⟨D, hD, hr, hsg.cell hc (fun heq => by have := (hown1.lt D heq.symm).2; omega)⟩)
          | exact absurd rfl hij
          | (refine own_beside hF hso ?_ hsg; decide)
          | (exfalso
             have hx : waits oj 8 = true := by cases hj; kernel_rfl
             rw [hx] at hw
             cases hw)
      · by_cases h2 : i = 17
        · subst h2
          obtain ⟨hso, hsg⟩ := hS
          unfold evF at *
          split at hF
          all_goals first
            | exact hF
            | (obtain ⟨D, hD, hr, hc⟩ := hF
               exact ⟨D, hD, hr, hsg.cell hc (fun heq => by have := (hown2.lt D heq.symm).2; omega)⟩)
            | exact absurd rfl hij
            | (refine own_beside hF hso ?_ hsg; decide)
            | (exfalso
               have hx : waits oj 17 = true := by cases hj; kernel_rfl
               rw [hx] at hw
               cases hw)
        · have hb := evS_else _ _ _ _ _ _ i w1 w2 h1 h2 hS
          unfold evF at *
          split at hF
          all_goals first
            | exact hF
            | (obtain ⟨D, hD, hr, hc⟩ := hF
               exact ⟨D, hD, hr, cell_below hb hc (block_lt hc)⟩)
            | exact own_keep hF hb
    case give =>
      intro i c w1 w2 hic hR1 hS hF
      by_cases h1 : i = 8
      · subst h1
        obtain ⟨hso, hsg⟩ := hS
        unfold evG at *
        split at hF
        · exact absurd rfl hic
        · exact own_beside hF hso (by decide) hsg
        · trivial
      · by_cases h2 : i = 17
        · subst h2
          obtain ⟨hso, hsg⟩ := hS
          unfold evG at *
          split at hF
          · exact own_beside hF hso (by decide) hsg
          · exact absurd rfl hic
          · trivial
        · have hb := evS_else _ _ _ _ _ _ i w1 w2 h1 h2 hS
          unfold evG at *
          split at hF
          · exact own_keep hF hb
          · exact own_keep hF hb
          · trivial
    case step =>
      intro i o ho b w1 hR hG hold hdep
      obtain ⟨x0, x1⟩ := hR.box.cells2
      have k1 : IntKind.i64.wrap (48 + q) = 48 + q := IntWalk.i64_in _ (by omega)
      have k2 : IntKind.u8.wrap (48 + q) = 48 + q := (show ∀ q : Fin 10, IntKind.u8.wrap (48 + (q.val : Int)) = 48 + (q.val : Int) by decide) ⟨q, by omega⟩
      have hcn : ((UInt8.ofNat (48 + q)).toNat : Int) = 48 + q := (show ∀ q : Fin 10, ((UInt8.ofNat (48 + q.val)).toNat : Int) = 48 + (q.val : Int) by decide) ⟨q, by omega⟩
      have hb0 := Below.refl w1.heap.size w1
      rcases i with _ | _ | _ | _ | _ | _ | _ | _ | _ | _ | _ | _ | _ | _ | _ | _ | _ | _ | _ | _ | i
      all_goals try cases ho
      · have o10 : sl b 10 = sv := hold 10 (by kernel_rfl)
        exact okY_val rfl rfl (want_none rfl b) (by simp [go_sem, o10]) hR hb0 rfl
      · have o13 : sl b 13 = .int .i64 q := hold 13 (by kernel_rfl)
        exact okY_val rfl rfl (want_none rfl b) (by simp [go_sem, o13]) hR hb0 rfl
      · have f32 : sl b 32 = .int .i64 q := hdep 1 _ rfl (by kernel_rfl)
        exact okY_val rfl rfl (want_none rfl b) (by simp [go_sem, f32, k1]) hR hb0 rfl
      · have f33 : sl b 33 = .int .i64 (48 + q) := hdep 2 _ rfl (by kernel_rfl)
        exact okY_val rfl rfl (want_none rfl b) (by simp [go_sem, f33, k2]) hR hb0 rfl
      · have f34 : sl b 34 = .int .u8 (48 + q) := hdep 3 _ rfl (by kernel_rfl)
        exact okY_val rfl rfl (want_none rfl b) (by simp [go_sem, f34] <;> first | rfl | exact ⟨rfl, rfl⟩) (hR.later (up hb0 _)) (up hb0 _) ⟨_, hR.grow, rfl, by simp⟩
      · obtain ⟨D4, hD4, f35, g35⟩ : ∃ D, wr.heap.size ≤ D ∧ sl b 35 = .slice (some ⟨D, 0, none⟩) 1 1 ∧ w1.cell? ⟨D, 0, none⟩ = some (.int .u8 (48 + q)) := hdep 4 _ rfl (by kernel_rfl)
        have hconv := run_convert_bytes_back (P := Tryd.prog) w1 28 9 5 ⟨D4, 0, none⟩ 1 [UInt8.ofNat (48 + q)] (by kernel_rfl) (by kernel_rfl) (by kernel_rfl) (fun j hj => by
          have : j = 0 := by simpa using hj
          subst this
          simp only [List.getElem_cons_zero]
          rw [hcn]
          exact g35)
        rw [List.length_singleton] at hconv
        exact okY_val rfl rfl (want_none rfl b) (by simp only [go_sem, f35, hconv]; simp [go_sem, f35, hconv]) hR hb0 rfl
      · have f36 : sl b 36 = .string ⟨#[UInt8.ofNat (48 + q)]⟩ := hdep 5 _ rfl (by kernel_rfl)
        exact okY_val rfl rfl (want_none rfl b) (by simp [go_sem, f36, pre_n, nmE]) hR hb0 rfl
      · have f37 : sl b 37 = .string (nmE q) := hdep 6 _ rfl (by kernel_rfl)
        exact okY_val rfl rfl (want_none rfl b) (by simp [go_sem, f37] <;> first | rfl | exact ⟨rfl, rfl⟩) (hR.later (up hb0 _)) (up hb0 _) ⟨_, hR.grow, rfl, by simp⟩
      · have f31 : sl b 31 = sv := hdep 0 _ rfl (by kernel_rfl)
        obtain ⟨D7, hD7, f38, g38⟩ : ∃ D, wr.heap.size ≤ D ∧ sl b 38 = .slice (some ⟨D, 0, none⟩) 1 1 ∧ w1.cell? ⟨D, 0, none⟩ = some (.string (nmE q)) := hdep 7 _ rfl (by kernel_rfl)
        refine okY_text rfl rfl rfl (.tmp 31) (.tmp 38) rfl B sv m ss (by simpa [go_sem] using f31) hG D7 (nmE q) (by simpa [go_sem] using f38) g38 (by omega) (hR.size) ?_
        intro v2 w2 hown hgrow
        exact ⟨hR.app1 hG hgrow, ⟨hG, hgrow⟩, hown⟩
      · have o11 : sl b 11 = zv := hold 11 (by kernel_rfl)
        exact okY_val rfl rfl (want_none rfl b) (by simp [go_sem, o11]) hR hb0 rfl
      · have o2 : sl b 2 = .int .i64 mode := hold 2 (by kernel_rfl)
        exact okY_val rfl rfl (want_none rfl b) (by simp [go_sem, o2]) hR hb0 rfl
      · have f41 : sl b 41 = .int .i64 mode := hdep 10 _ rfl (by kernel_rfl)
        refine okY_enter rfl rfl (want_none rfl b) ?_ ((k4 w1).mono ?_)
        · simp [go_sem, f41]
        rintro e w2 ⟨rfl, rfl⟩
        exact ⟨_, rfl, hR, hb0, rfl⟩
      · have o9 : sl b 9 = .pointer (some ⟨C, 0, none⟩) := hold 9 (by kernel_rfl)
        exact okY_val rfl rfl (want_none rfl b) (by simp [go_sem, o9, x0, x1]) hR hb0 rfl
      · exact okY_val rfl rfl (want_none rfl b) (by simp [go_sem]) hR hb0 rfl
      · exact okY_val rfl rfl (want_none rfl b) (by simp [go_sem]) hR hb0 rfl
      · have f42 : sl b 42 = .int .i64 m4 := hdep 11 _ rfl (by kernel_rfl)
        have f43 : sl b 43 = .agg #[.int .i64 x, .int .i64 y] := hdep 12 _ rfl (by kernel_rfl)
        have f44 : sl b 44 = .agg #[.int .i64 0, .int .i64 0] := hdep 13 _ rfl (by kernel_rfl)
        have f45 : sl b 45 = .agg #[.int .i64 1, .int .i64 0] := hdep 14 _ rfl (by kernel_rfl)
        refine okY_enter rfl rfl (want_none rfl b) ?_ ((kS w1 hR.tab).mono ?_)
        · simp [go_sem, f42, f43, f44, f45]
        rintro e w2 ⟨rfl, hb2⟩
        exact ⟨_, rfl, hR.later hb2, hb2, rfl⟩
      · have f46 : sl b 46 = .int .i64 z := hdep 15 _ rfl (by kernel_rfl)
        exact okY_val rfl rfl (want_none rfl b) (by simp [go_sem, f46] <;> first | rfl | exact ⟨rfl, rfl⟩) (hR.later (up hb0 _)) (up hb0 _) ⟨_, hR.grow, rfl, by simp⟩
      · have f40 : sl b 40 = zv := hdep 9 _ rfl (by kernel_rfl)
        obtain ⟨D16, hD16, f47, g47⟩ : ∃ D, wr.heap.size ≤ D ∧ sl b 47 = .slice (some ⟨D, 0, none⟩) 1 1 ∧ w1.cell? ⟨D, 0, none⟩ = some (.int .i64 z) := hdep 16 _ rfl (by kernel_rfl)
        refine okY_num rfl rfl rfl (.tmp 40) (.tmp 47) rfl B zv m zs (by simpa [go_sem] using f40) hG D16 (z) (by simpa [go_sem] using f47) g47 (by omega) (hR.size) ?_
        intro v2 w2 hown hgrow
        exact ⟨hR.app2 hG hgrow, ⟨hG, hgrow⟩, hown⟩
      · have f39 : w1.ownsRow B 9 1 (sl b 39) (m + 1) ((ss ++ [nmE q]).map Value.string) := hdep 8 _ rfl (by kernel_rfl)
        obtain ⟨va, vc, hv⟩ := slice_of_own f39
        exact okY_val rfl rfl (want_none rfl b) (by simp [go_sem, hv]; rfl) hR hb0 (by rw [← hv]; exact f39)
      · have f48 : w1.ownsRow B 3 1 (sl b 48) (m + 1) ((zs ++ [z]).map (Value.int .i64)) := hdep 17 _ rfl (by kernel_rfl)
        obtain ⟨va, vc, hv⟩ := slice_of_own f48
        exact okY_val rfl rfl (want_none rfl b) (by simp [go_sem, hv]; rfl) hR hb0 (by rw [← hv]; exact f48)
    case rest =>
      intro b w1 hR hsz hdf hold hF
      have p1 : w1.ownsRow B 9 1 (sl b 10) (m + 1) ((ss ++ [nmE q]).map Value.string) := hF 18 _ rfl
      have p2 : w1.ownsRow B 3 1 (sl b 11) (m + 1) ((zs ++ [z]).map (Value.int .i64)) := hF 19 _ rfl
      have f0 := hold 0 (by kernel_rfl)
      have f1 := hold 1 (by kernel_rfl)
      have f2 := hold 2 (by kernel_rfl)
      have f3 := hold 3 (by kernel_rfl)
      have f4 := hold 4 (by kernel_rfl)
      have f5 := hold 5 (by kernel_rfl)
      have f6 := hold 6 (by kernel_rfl)
      have f7 := hold 7 (by kernel_rfl)
      have f8 := hold 8 (by kernel_rfl)
      have f9 := hold 9 (by kernel_rfl)
      have f12 := hold 12 (by kernel_rfl)
      have f13 := hold 13 (by kernel_rfl)
      have f14 := hold 14 (by kernel_rfl)
      have f15 := hold 15 (by kernel_rfl)
      have f16 := hold 16 (by kernel_rfl)
      have f17 := hold 17 (by kernel_rfl)
      have f18 := hold 18 (by kernel_rfl)
      have f19 := hold 19 (by kernel_rfl)
      have f20 := hold 20 (by kernel_rfl)
      have f21 := hold 21 (by kernel_rfl)
      have f22 := hold 22 (by kernel_rfl)
      have f23 := hold 23 (by kernel_rfl)
      have f24 := hold 24 (by kernel_rfl)
      have f25 := hold 25 (by kernel_rfl)
      have f26 := hold 26 (by kernel_rfl)
      have f27 := hold 27 (by kernel_rfl)
      have f28 := hold 28 (by kernel_rfl)
      have f29 := hold 29 (by kernel_rfl)
      have f30 := hold 30 (by kernel_rfl)
      have f49 := hold 49 (by kernel_rfl)
      have f50 := hold 50 (by kernel_rfl)
      have f51 := hold 51 (by kernel_rfl)
      have f52 := hold 52 (by kernel_rfl)
      have f53 := hold 53 (by kernel_rfl)
      have f54 := hold 54 (by kernel_rfl)
      have hB : b = _ := act_list b (show b.tmps.size = 55 from hsz) hdf
      rw [hB]
      simp only [List.range, List.range.loop, List.map_cons, List.map_nil, f0, f1, f2, f3, f4, f5, f6, f7, f8, f9, f12, f13, f14, f15, f16, f17, f18, f19, f20, f21, f22, f23, f24, f25, f26, f27, f28, f29, f30, f49, f50, f51, f52, f53, f54]
      generalize sl b 10 = v10, sl b 11 = v11, sl b 31 = v31, sl b 32 = v32, sl b 33 = v33, sl b 34 = v34, sl b 35 = v35, sl b 36 = v36, sl b 37 = v37, sl b 38 = v38, sl b 39 = v39, sl b 40 = v40, sl b 41 = v41, sl b 42 = v42, sl b 43 = v43, sl b 44 = v44, sl b 45 = v45, sl b 46 = v46, sl b 47 = v47, sl b 48 = v48 at p1 p2 ⊢
      simp only [sl, List.getElem?_toArray, List.getElem?_cons_succ, List.getElem?_cons_zero, Option.getD_some]
      clear hB hold hsz hdf hF f0 f1 f2 f3 f4 f5 f6 f7 f8 f9 f12 f13 f14 f15 f16 f17 f18 f19 f20 f21 f22 f23 f24 f25 f26 f27 f28 f29 f30 f49 f50 f51 f52 f53 f54
      have eq1 : lst K (m + 1) = lst K m ++ [nmE q] := by rw [lst, hq]
      have eq2 : List.replicate (m + 1) z = List.replicate m z ++ [z] := List.replicate_succ'
      rw [hss] at eq1
      rw [hzs] at eq2
      go_wp2
      go_roundw
      case rel => exact ⟨m + 1, by omega, by go_num, by rw [eq1]; exact p1, by rw [eq2]; exact p2, hR.box, hR.bel, hR.size⟩
      case measure => simp [intOf]; omega
  · obtain rfl : m = K := by omega
    have e0 : (m : Int) - m = 0 := by omega
    rw [e0]
    obtain ⟨a1, c1, rfl⟩ := slice_of_own hown1
    obtain ⟨a2, c2, rfl⟩ := slice_of_own hown2
    obtain ⟨hs, hl⟩ := strs_own hown1 (by omega)
    obtain ⟨hzr, _⟩ := ints_own hown2 (by unfold maxLen; omega)
    have kB := best_any a1 a2 c1 c2 m (lst m m) (List.replicate m z) ((m - 1 : Nat) : Int) wr hs hzr hl (bst_even m z hK9 m (Nat.le_refl _) hK0)
    have e1 : ((m - 1 : Nat) : Int) = (m : Int) - 1 := by omega
    rw [e1] at kB
    clear hown1 hown2 hs hl hzr e1 e0 k4 kS
    go_wp2_with (first | (go_at_call 7; refine kB.mono ?_; rintro e w5 ⟨rfl, hb5⟩))
    go_ret
    exact ⟨rfl, fin hb5 hbr⟩

end Go.Proofs.YtmkbllkfipcghabDoor
