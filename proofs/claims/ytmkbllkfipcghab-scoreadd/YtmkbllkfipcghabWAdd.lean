/- The walk of ScoreAdd. -/
import Derived.Test.YtmkbllkfipcghabKN
import Derived.Test.YtmkbllkfipcghabAP
import Derived.Test.YtmkbllkfipcghabOX
import Derived.Laws.OwnMore
namespace Go.Proofs.Ytmkbllkfipcghab
open Go.RowKit Go.Maps
set_option linter.unusedSimpArgs false

theorem own_slice {w : World} {base : Nat} {e : TypeId} {size : Nat} {v : Value} {n : Nat} {xs : List Value} (h : w.ownsRow base e size v n xs) (hn : 0 < n) : ∃ g cap, v = .slice (some ⟨g, 0, none⟩) n cap ∧ base ≤ g ∧ g < w.heap.size ∧ n ≤ cap := by
  rcases h.2 with ⟨_, h0⟩ | ⟨g, cap, cur, rfl, hb, hh, hc, _⟩
  · omega
  · exact ⟨g, cap, rfl, hb, (Array.getElem?_eq_some_iff.1 hh).1, hc⟩
theorem own_cell {w : World} {base g n cap : Nat} {e : TypeId} {size : Nat} {xs : List Value} (h : w.ownsRow base e size (.slice (some ⟨g, 0, none⟩) n cap) n xs) (j : Nat) (u : Value) (hu : xs[j]? = some u) : w.cell? ⟨g, j, none⟩ = some u := by
  have := h.cells (g := g) rfl j u hu
  rcases Nat.eq_zero_or_pos j with rfl | hi
  · simpa [Addr.add] using this
  · simpa [Addr.add, show j ≠ 0 by omega] using this
theorem own_frozen {w : World} {base g n cap : Nat} {e : TypeId} {size : Nat} {xs : List Value} (h : w.ownsRow base e size (.slice (some ⟨g, 0, none⟩) n cap) n xs) (j : Nat) : w.frozen? ⟨g, j, none⟩ = false := by
  rcases h.2 with ⟨h0, _⟩ | ⟨g', cap', cur, h', _, hh, _⟩
  · cases h0
  · cases h'
    simp [World.frozen?, hh]

/-- What all operations of a round leave there. -/
structure BeR (w wr w1 : World) : Prop where
  bel : Below w.heap.size w w1
  size : w.heap.size ≤ w1.heap.size
  grow : wr.heap.size ≤ w1.heap.size
theorem BeR.later {w wr w1 w2 : World} (h : BeR w wr w1) (hb : Below w1.heap.size w1 w2) : BeR w wr w2 :=
  ⟨fin hb h.bel, Nat.le_trans h.size hb.size, Nat.le_trans h.grow hb.size⟩
theorem BeR.app {w wr w1 w2 : World} {e : TypeId} {v : Value} {n : Nat} {xs : List Value} (h : BeR w wr w1) (ho : w1.ownsRow w.heap.size e 1 v n xs) (hg : w1.grownBy w2 v.ownBlock) : BeR w wr w2 :=
  ⟨h.bel.grown hg h.bel.size (fun j hj => own_lt ho j hj), Nat.le_trans h.size hg.size, Nat.le_trans h.grow hg.size⟩
theorem BeR.app1 {w wr w1 w2 : World} {v : Value} {n : Nat} {xs : List ByteArray} (h : BeR w wr w1) (ho : w1.ownsRow w.heap.size 9 1 v n (xs.map Value.string)) (hg : w1.grownBy w2 v.ownBlock) : BeR w wr w2 := h.app ho hg
theorem BeR.app2 {w wr w1 w2 : World} {v : Value} {n : Nat} {xs : List Int} (h : BeR w wr w1) (ho : w1.ownsRow w.heap.size 3 1 v n (xs.map (Value.int .i64))) (hg : w1.grownBy w2 v.ownBlock) : BeR w wr w2 := h.app ho hg

/-- A row stays, where another block is written to. -/
theorem own_apart {w w' : World} {base : Nat} {e : TypeId} {size : Nat} {v : Value} {n : Nat} {xs : List Value} {q : Nat} (h : w.ownsRow base e size v n xs) (hg : w.grownBy w' (some q)) (hne : v.ownBlock ≠ some q) : w'.ownsRow base e size v n xs := by
  refine ⟨h.1, ?_⟩
  rcases h.2 with h0 | ⟨g, cap, cur, hv, hgb, hh, hrest⟩
  · exact .inl h0
  · refine .inr ⟨g, cap, cur, hv, hgb, ?_, hrest⟩
    rw [← hh]
    exact hg.block g (Array.getElem?_eq_some_iff.1 hh).1 fun heq => hne (by rw [hv]; exact heq)

section
variable {o : Oper} {b : Act} {ops : Array Oper} {i : Nat} {d : Tmp} {own : Nat → Bool} {used : Nat → Option Nat} {R : World → Prop} {F : Nat → Value → World → Prop}
/-- A row is handed on. -/
theorem okS_take {P : Program} {v : Value} {w1 : World} (ho : ops[i]? = some o) (hd : o.dst = some d) (hw : Region.wanted o (yielded ops b.tmps) = true)
    (hrun : (execOp b.eval o).run P w1 = .ok (.value v) w1) (hR : R w1) (c : Nat) (hu : used c = some i) (hoc : own c = true) (hwc : waits o c = true) (hvc : vals ops b c = v) (hF : F i v w1) : okOp P ops i (Sep ops i o b w1 own used R F) b w1 :=
  okZ_val (S := fun w1 w2 => Below w1.heap.size w1 w2 ∨ ∃ c q, used c = some i ∧ own c = true ∧ waits o c = true ∧ (vals ops b c).ownBlock = some q ∧ w1.grownBy w2 (some q))
    (F := fun i v w2 => (own i = true → ∀ g, v.ownBlock = some g → w1.heap.size ≤ g ∨ ∃ c, used c = some i ∧ own c = true ∧ waits o c = true ∧ (vals ops b c).ownBlock = some g) ∧ F i v w2)
    ho hd hw hrun hR (.inl (Below.refl _ _)) ⟨fun _ g hg => .inr ⟨c, hu, hoc, hwc, by rw [hvc, hg]⟩, hF⟩
end

theorem cell_one (w : World) (u : Value) (t : TypeId) : ∀ j y, [u][j]? = some y → (w.alloc (.cells #[u] t)).cell? ((⟨w.heap.size, 0, none⟩ : Addr).add j) = some y := by
  intro j y hy
  rcases j with _ | j
  · simp at hy
    subst hy
    simp [Addr.add]
  · simp at hy
theorem strings_oneCell (ts : List ByteArray) : ∀ u ∈ ts.map Value.string, u.oneCell' = true := by
  intro u hu
  obtain ⟨s, _, rfl⟩ := List.mem_map.1 hu
  rfl

def adF (WR : World) (B m : Nat) (sv zv : Value) (ss : List ByteArray) (zs : List Int) (x : Addr) (len0 cap0 : Nat) (s0 s1 : Int) : Nat → Value → World → Prop
  | 0, r, _ => r = sv
  | 1, r, _ => r = .int .i64 m
  | 2, r, _ => r = .int .i64 (97 + m)
  | 3, r, _ => r = .int .u8 (97 + m)
  | 4, r, w1 => ∃ D, WR.heap.size ≤ D ∧ r = .slice (some ⟨D, 0, none⟩) 1 1 ∧ w1.cell? ⟨D, 0, none⟩ = some (.int .u8 (97 + m))
  | 5, r, _ => r = .string ⟨#[UInt8.ofNat (97 + m)]⟩
  | 6, r, _ => r = .string (nmA m)
  | 7, r, w1 => ∃ D, WR.heap.size ≤ D ∧ r = .slice (some ⟨D, 0, none⟩) 1 1 ∧ w1.cell? ⟨D, 0, none⟩ = some (.string (nmA m))
  | 8, r, w1 => w1.ownsRow B 9 1 r (m + 1) ((ss ++ [nmA m]).map Value.string)
  | 9, r, _ => r = zv
  | 10, r, _ => r = .slice (some x) len0 cap0
  | 11, r, _ => r = .int .i64 m
  | 12, r, _ => r = .pointer (some (x.add m))
  | 13, r, _ => r = .int .i64 s0
  | 14, r, _ => r = .int .i64 s1
  | 15, r, w1 => ∃ D, WR.heap.size ≤ D ∧ r = .slice (some ⟨D, 0, none⟩) 1 1 ∧ w1.cell? ⟨D, 0, none⟩ = some (.int .i64 s1)
  | 16, r, w1 => w1.ownsRow B 3 1 r (m + 1) ((zs ++ [s1]).map (Value.int .i64))
  | 17, r, w1 => w1.ownsRow B 9 1 r (m + 1) ((ss ++ [nmA m]).map Value.string)
  | 18, r, w1 => w1.ownsRow B 3 1 r (m + 1) ((zs ++ [s1]).map (Value.int .i64))
  | _, _, _ => True
def adS (B m : Nat) (sv zv : Value) (ss : List ByteArray) (zs : List Int) : Nat → World → World → Prop
  | 8, w1, w2 => w1.ownsRow B 9 1 sv m ((ss).map Value.string) ∧ w1.grownBy w2 sv.ownBlock
  | 16, w1, w2 => w1.ownsRow B 3 1 zv m ((zs).map (Value.int .i64)) ∧ w1.grownBy w2 zv.ownBlock
  | _, w1, w2 => Below w1.heap.size w1 w2
def adG (B m : Nat) (sv zv : Value) (ss : List ByteArray) (zs : List Int) : Nat → World → Prop
  | 8, w1 => w1.ownsRow B 9 1 sv m ((ss).map Value.string)
  | 16, w1 => w1.ownsRow B 3 1 zv m ((zs).map (Value.int .i64))
  | _, _ => True
theorem adS_else (B m : Nat) (sv zv : Value) (ss : List ByteArray) (zs : List Int) (i : Nat) (w1 w2 : World) (h1 : i ≠ 8) (h2 : i ≠ 16) (h : adS B m sv zv ss zs i w1 w2) : Below w1.heap.size w1 w2 := by
  unfold adS at h
  split at h
  · exact absurd rfl h1
  · exact absurd rfl h2
  · exact h
/-- What each operation of the two copies leaves. -/
def cpF (H g8 m c8 q : Nat) (zs : List Int) (zq d : Int) : Nat → Value → World → Prop
  | 0, r, w1 => ∃ D, H ≤ D ∧ r = .slice (some ⟨D, 0, none⟩) 0 0 ∧ Box w1 D #[] 3
  | 1, r, _ => r = .slice (some ⟨g8, 0, none⟩) m c8
  | 2, r, w1 => w1.ownsRow H 3 1 r m ((zs).map (Value.int .i64))
  | 3, r, _ => r = .slice (some ⟨g8, 0, none⟩) m c8
  | 4, r, _ => r = .int .i64 q
  | 5, r, _ => r = .pointer (some ⟨g8, q, none⟩)
  | 6, r, _ => r = .int .i64 zq
  | 7, r, _ => r = .int .i64 d
  | 8, r, _ => r = .int .i64 (zq - d)
  | 9, r, w1 => ∃ D, H ≤ D ∧ r = .slice (some ⟨D, 0, none⟩) 1 1 ∧ w1.cell? ⟨D, 0, none⟩ = some (.int .i64 (zq - d))
  | 10, r, w1 => w1.ownsRow H 3 1 r (m + 1) ((zs ++ [zq - d]).map (Value.int .i64))
  | 11, r, w1 => ∃ D, H ≤ D ∧ r = .slice (some ⟨D, 0, none⟩) 0 0 ∧ Box w1 D #[] 3
  | 12, r, _ => r = .slice (some ⟨g8, 0, none⟩) m c8
  | 13, r, w1 => w1.ownsRow H 3 1 r m ((zs).map (Value.int .i64))
  | 14, r, _ => r = .slice (some ⟨g8, 0, none⟩) m c8
  | 15, r, _ => r = .int .i64 q
  | 16, r, _ => r = .pointer (some ⟨g8, q, none⟩)
  | 17, r, _ => r = .int .i64 zq
  | 18, r, _ => r = .int .i64 d
  | 19, r, _ => r = .int .i64 (zq + d)
  | 20, r, w1 => ∃ D, H ≤ D ∧ r = .slice (some ⟨D, 0, none⟩) 1 1 ∧ w1.cell? ⟨D, 0, none⟩ = some (.int .i64 (zq + d))
  | 21, r, w1 => w1.ownsRow H 3 1 r (m + 1) ((zs ++ [zq + d]).map (Value.int .i64))
  | 22, r, w1 => w1.ownsRow H 3 1 r (m + 1) ((zs ++ [zq - d]).map (Value.int .i64))
  | 23, r, w1 => w1.ownsRow H 3 1 r (m + 1) ((zs ++ [zq + d]).map (Value.int .i64))
  | _, _, _ => False
def cpO (i : Nat) : Bool := i == 0 || i == 2 || i == 9 || i == 10 || i == 11 || i == 13 || i == 20 || i == 21 || i == 22 || i == 23
def cpU : Nat → Option Nat
  | 2 => some 10
  | 10 => some 22
  | 13 => some 21
  | 21 => some 23
  | _ => none

set_option maxRecDepth 100000 in
set_option maxHeartbeats 8000000 in
theorem scoreAdd_walk (a0 : Option Addr) (len0 cap0 : Nat) (z0 : List Int) (at_ by_ : Int) (w : World) (w0 : IsRow .i64 w a0 len0 cap0 z0) :
    Calls Try.prog 4 #[.slice a0 len0 cap0, .int .i64 at_, .int .i64 by_] w fun e w' => e = .returned (.bool true) ∧ Below w.heap.size w w' := by
  replace w0 := w0.has
  have l0 : len0 ≤ 9223372036854775807 := w0.1
  go_enter Try.func4, Try.ntmps4
  go_wp2_with (first
    | (go_at_call 5; refine (known_any _).mono ?_; rintro e wk ⟨rfl, hbk⟩))
  go_loopw [7, 8, 9] (fun sv zv i wr => ∃ (m : Nat) (zs : List Int), m ≤ 10 ∧ m ≤ len0 ∧ (∀ z ∈ zs, 0 ≤ z ∧ z < 100) ∧ i = .int .i64 m ∧ wr.ownsRow w.heap.size 9 1 sv m ((lstA m).map Value.string) ∧ wr.ownsRow w.heap.size 3 1 zv m (zs.map (Value.int .i64)) ∧ Below w.heap.size w wr) (fun _ _ i _ => 10 - (intOf i).toNat)
  case atStart => exact ⟨0, [], by omega, by omega, (fun z hz => by cases hz), rfl, World.ownsRow_nil _ _ _ _, World.ownsRow_nil _ _ _ _, hbk⟩
  case round =>
  obtain ⟨m, zs, hm, hm0, hzb, rfl, hown1, hown2, hbr⟩ := hrel
  by_cases hlt : m < len0 ∧ m < 10
  · obtain ⟨hl0, hl2⟩ := hlt
    obtain ⟨x, hxa, hcx⟩ := w0.2 m hl0
    subst hxa
    obtain ⟨s0, hs0⟩ : ∃ k, z0.getD m 0 = k := ⟨_, rfl⟩
    rw [hs0] at hcx
    obtain ⟨s1, hs1e⟩ : ∃ k, s0 % 100 = k := ⟨_, rfl⟩
    have hs1 : 0 ≤ s1 ∧ s1 < 100 := by omega
    have k100 := fun W => within6_any s0 100 s1 (by decide) (by decide) hs1e W
    have hi0 : (m : Int) < len0 := by omega
    have hi12 : (m : Int) < 10 := by omega
    clear hs1e hs0
    obtain ⟨sv, hsv⟩ : ∃ v, u7 = v := ⟨_, rfl⟩
    obtain ⟨zv, hzv⟩ : ∃ v, u8 = v := ⟨_, rfl⟩
    rw [hsv] at hown1 ⊢
    rw [hzv] at hown2 ⊢
    obtain ⟨ss, hss⟩ : ∃ l, lstA m = l := ⟨_, rfl⟩
    rw [hss] at hown1
    clear hsv hzv
    have hR0 : BeR w wr wr.drew := ⟨hbr.drew, hbr.size, Nat.le_refl _⟩
    go_upto_region 8 with fail
    refine wp_region_relyY (fun w1 => BeR w wr w1) (adS w.heap.size m sv zv ss zs) (adF wr w.heap.size m sv zv ss zs x len0 cap0 s0 s1) (adG w.heap.size m sv zv ss zs) (by kernel_rfl) (by kernel_rfl) hR0 ?gs ?keep ?give ?step ?rest
    case gs =>
      intro c
      unfold adG
      split
      · exact hown1
      · exact hown2
      · trivial
    case keep =>
      intro i j oj r w1 w2 hij hj hw hR1 hS hF
      by_cases h1 : i = 8
      · subst h1
        obtain ⟨hso, hsg⟩ := hS
        unfold adF at *
        split at hF
        all_goals first
          | exact hF
          | (obtain ⟨D, hD, hr, hc⟩ := hF
             exact ⟨D, hD, hr, hsg.cell hc (fun heq => by have := (hown1.lt D heq.symm).2; omega)⟩)
          | exact absurd rfl hij
          | (refine own_beside hF hso ?_ hsg; decide)
          | (exfalso
             have hx : waits oj 8 = true := by cases hj; kernel_rfl
             rw [hx] at hw
             cases hw)
      · by_cases h2 : i = 16
        · subst h2
          obtain ⟨hso, hsg⟩ := hS
          unfold adF at *
          split at hF
          all_goals first
            | exact hF
            | (obtain ⟨D, hD, hr, hc⟩ := hF
               exact ⟨D, hD, hr, hsg.cell hc (fun heq => by have := (hown2.lt D heq.symm).2; omega)⟩)
            | exact absurd rfl hij
            | (refine own_beside hF hso ?_ hsg; decide)
            | (exfalso
               have hx : waits oj 16 = true := by cases hj; kernel_rfl
               rw [hx] at hw
               cases hw)
        · have hb := adS_else _ _ _ _ _ _ i w1 w2 h1 h2 hS
          unfold adF at *
          split at hF
          all_goals first
            | exact hF
            | (obtain ⟨D, hD, hr, hc⟩ := hF
               exact ⟨D, hD, hr, cell_below hb hc (block_lt hc)⟩)
            | exact own_keep hF hb
    case give =>
      intro i c w1 w2 hic hR1 hS hF
      by_cases h1 : i = 8
      · subst h1
        obtain ⟨hso, hsg⟩ := hS
        unfold adG at *
        split at hF
        · exact absurd rfl hic
        · exact own_beside hF hso (by decide) hsg
        · trivial
      · by_cases h2 : i = 16
        · subst h2
          obtain ⟨hso, hsg⟩ := hS
          unfold adG at *
          split at hF
          · exact own_beside hF hso (by decide) hsg
          · exact absurd rfl hic
          · trivial
        · have hb := adS_else _ _ _ _ _ _ i w1 w2 h1 h2 hS
          unfold adG at *
          split at hF
          · exact own_keep hF hb
          · exact own_keep hF hb
          · trivial
    case step =>
      intro i o ho b w1 hR hG hold hdep
      have cx := cell_below hR.bel hcx (block_lt hcx)
      have k1 : IntKind.i64.wrap (97 + m) = 97 + m := IntWalk.i64_in _ (by omega)
      have k2 : IntKind.u8.wrap (97 + m) = 97 + m := (show ∀ q : Fin 10, IntKind.u8.wrap (97 + (q.val : Int)) = 97 + (q.val : Int) by decide) ⟨m, by omega⟩
      have hcn : ((UInt8.ofNat (97 + m)).toNat : Int) = 97 + m := (show ∀ q : Fin 10, ((UInt8.ofNat (97 + q.val)).toNat : Int) = 97 + (q.val : Int) by decide) ⟨m, by omega⟩
      have hb0 := Below.refl w1.heap.size w1
      rcases i with _ | _ | _ | _ | _ | _ | _ | _ | _ | _ | _ | _ | _ | _ | _ | _ | _ | _ | _ | i
      all_goals try cases ho
      · have o7 : sl b 7 = sv := hold 7 (by kernel_rfl)
        exact okY_val rfl rfl (want_none rfl b) (by simp [go_sem, o7]) hR hb0 rfl
      · have o9 : sl b 9 = .int .i64 m := hold 9 (by kernel_rfl)
        exact okY_val rfl rfl (want_none rfl b) (by simp [go_sem, o9]) hR hb0 rfl
      · have f30 : sl b 30 = .int .i64 m := hdep 1 _ rfl (by kernel_rfl)
        exact okY_val rfl rfl (want_none rfl b) (by simp [go_sem, f30, k1]) hR hb0 rfl
      · have f31 : sl b 31 = .int .i64 (97 + m) := hdep 2 _ rfl (by kernel_rfl)
        exact okY_val rfl rfl (want_none rfl b) (by simp [go_sem, f31, k2]) hR hb0 rfl
      · have f32 : sl b 32 = .int .u8 (97 + m) := hdep 3 _ rfl (by kernel_rfl)
        exact okY_val rfl rfl (want_none rfl b) (by simp [go_sem, f32] <;> first | rfl | exact ⟨rfl, rfl⟩) (hR.later (up hb0 _)) (up hb0 _) ⟨_, hR.grow, rfl, by simp⟩
      · obtain ⟨D4, hD4, f33, g33⟩ : ∃ D, wr.heap.size ≤ D ∧ sl b 33 = .slice (some ⟨D, 0, none⟩) 1 1 ∧ w1.cell? ⟨D, 0, none⟩ = some (.int .u8 (97 + m)) := hdep 4 _ rfl (by kernel_rfl)
        have hconv := run_convert_bytes_back (P := Try.prog) w1 33 9 5 ⟨D4, 0, none⟩ 1 [UInt8.ofNat (97 + m)] (by kernel_rfl) (by kernel_rfl) (by kernel_rfl) (fun j hj => by
          have : j = 0 := by simpa using hj
          subst this
          simp only [List.getElem_cons_zero]
          rw [hcn]
          exact g33)
        rw [List.length_singleton] at hconv
        exact okY_val rfl rfl (want_none rfl b) (by simp only [go_sem, f33, hconv]; simp [go_sem, f33, hconv]) hR hb0 rfl
      · have f34 : sl b 34 = .string ⟨#[UInt8.ofNat (97 + m)]⟩ := hdep 5 _ rfl (by kernel_rfl)
        exact okY_val rfl rfl (want_none rfl b) (by simp [go_sem, f34, pre_n, nmA]) hR hb0 rfl
      · have f35 : sl b 35 = .string (nmA m) := hdep 6 _ rfl (by kernel_rfl)
        exact okY_val rfl rfl (want_none rfl b) (by simp [go_sem, f35] <;> first | rfl | exact ⟨rfl, rfl⟩) (hR.later (up hb0 _)) (up hb0 _) ⟨_, hR.grow, rfl, by simp⟩
      · have f29 : sl b 29 = sv := hdep 0 _ rfl (by kernel_rfl)
        obtain ⟨D7, hD7, f36, g36⟩ : ∃ D, wr.heap.size ≤ D ∧ sl b 36 = .slice (some ⟨D, 0, none⟩) 1 1 ∧ w1.cell? ⟨D, 0, none⟩ = some (.string (nmA m)) := hdep 7 _ rfl (by kernel_rfl)
        refine okY_text rfl rfl rfl (.tmp 29) (.tmp 36) rfl w.heap.size sv m ss (by simpa [go_sem] using f29) hG D7 (nmA m) (by simpa [go_sem] using f36) g36 (by omega) (hR.size) ?_
        intro v2 w2 hown hgrow
        exact ⟨hR.app1 hG hgrow, ⟨hG, hgrow⟩, hown⟩
      · have o8 : sl b 8 = zv := hold 8 (by kernel_rfl)
        exact okY_val rfl rfl (want_none rfl b) (by simp [go_sem, o8]) hR hb0 rfl
      · have o0 : sl b 0 = .slice (some x) len0 cap0 := hold 0 (by kernel_rfl)
        exact okY_val rfl rfl (want_none rfl b) (by simp [go_sem, o0]) hR hb0 rfl
      · have o9 : sl b 9 = .int .i64 m := hold 9 (by kernel_rfl)
        exact okY_val rfl rfl (want_none rfl b) (by simp [go_sem, o9]) hR hb0 rfl
      · have f39 : sl b 39 = .slice (some x) len0 cap0 := hdep 10 _ rfl (by kernel_rfl)
        have f40 : sl b 40 = .int .i64 m := hdep 11 _ rfl (by kernel_rfl)
        exact okY_val rfl rfl (want_none rfl b) (by simp [go_sem, f39, f40, hi0]) hR hb0 rfl
      · have f41 : sl b 41 = .pointer (some (x.add m)) := hdep 12 _ rfl (by kernel_rfl)
        exact okY_val rfl rfl (want_none rfl b) (by simp [go_sem, f41, cx]) hR hb0 rfl
      · have f42 : sl b 42 = .int .i64 s0 := hdep 13 _ rfl (by kernel_rfl)
        refine okY_enter rfl rfl (want_none rfl b) ?_ ((k100 w1).mono ?_)
        · simp [go_sem, f42]
        rintro e w2 ⟨rfl, rfl⟩
        exact ⟨_, rfl, hR, hb0, rfl⟩
      · have f43 : sl b 43 = .int .i64 s1 := hdep 14 _ rfl (by kernel_rfl)
        exact okY_val rfl rfl (want_none rfl b) (by simp [go_sem, f43] <;> first | rfl | exact ⟨rfl, rfl⟩) (hR.later (up hb0 _)) (up hb0 _) ⟨_, hR.grow, rfl, by simp⟩
      · have f38 : sl b 38 = zv := hdep 9 _ rfl (by kernel_rfl)
        obtain ⟨D15, hD15, f44, g44⟩ : ∃ D, wr.heap.size ≤ D ∧ sl b 44 = .slice (some ⟨D, 0, none⟩) 1 1 ∧ w1.cell? ⟨D, 0, none⟩ = some (.int .i64 s1) := hdep 15 _ rfl (by kernel_rfl)
        refine okY_num rfl rfl rfl (.tmp 38) (.tmp 44) rfl w.heap.size zv m zs (by simpa [go_sem] using f38) hG D15 (s1) (by simpa [go_sem] using f44) g44 (by omega) (hR.size) ?_
        intro v2 w2 hown hgrow
        exact ⟨hR.app2 hG hgrow, ⟨hG, hgrow⟩, hown⟩
      · have f37 : w1.ownsRow w.heap.size 9 1 (sl b 37) (m + 1) ((ss ++ [nmA m]).map Value.string) := hdep 8 _ rfl (by kernel_rfl)
        obtain ⟨va, vc, hv⟩ := slice_of_own f37
        exact okY_val rfl rfl (want_none rfl b) (by simp [go_sem, hv]; rfl) hR hb0 (by rw [← hv]; exact f37)
      · have f45 : w1.ownsRow w.heap.size 3 1 (sl b 45) (m + 1) ((zs ++ [s1]).map (Value.int .i64)) := hdep 16 _ rfl (by kernel_rfl)
        obtain ⟨va, vc, hv⟩ := slice_of_own f45
        exact okY_val rfl rfl (want_none rfl b) (by simp [go_sem, hv]; rfl) hR hb0 (by rw [← hv]; exact f45)
    case rest =>
      intro b w1 hR hsz hdf hold hF
      have p1 : w1.ownsRow w.heap.size 9 1 (sl b 7) (m + 1) ((ss ++ [nmA m]).map Value.string) := hF 17 _ rfl
      have p2 : w1.ownsRow w.heap.size 3 1 (sl b 8) (m + 1) ((zs ++ [s1]).map (Value.int .i64)) := hF 18 _ rfl
      have f0 := hold 0 (by kernel_rfl)
      have f1 := hold 1 (by kernel_rfl)
      have f2 := hold 2 (by kernel_rfl)
      have f3 := hold 3 (by kernel_rfl)
      have f4 := hold 4 (by kernel_rfl)
      have f5 := hold 5 (by kernel_rfl)
      have f6 := hold 6 (by kernel_rfl)
      have f9 := hold 9 (by kernel_rfl)
      have f10 := hold 10 (by kernel_rfl)
      have f11 := hold 11 (by kernel_rfl)
      have f12 := hold 12 (by kernel_rfl)
      have f13 := hold 13 (by kernel_rfl)
      have f14 := hold 14 (by kernel_rfl)
      have f15 := hold 15 (by kernel_rfl)
      have f16 := hold 16 (by kernel_rfl)
      have f17 := hold 17 (by kernel_rfl)
      have f18 := hold 18 (by kernel_rfl)
      have f19 := hold 19 (by kernel_rfl)
      have f20 := hold 20 (by kernel_rfl)
      have f21 := hold 21 (by kernel_rfl)
      have f22 := hold 22 (by kernel_rfl)
      have f23 := hold 23 (by kernel_rfl)
      have f24 := hold 24 (by kernel_rfl)
      have f25 := hold 25 (by kernel_rfl)
      have f26 := hold 26 (by kernel_rfl)
      have f27 := hold 27 (by kernel_rfl)
      have f28 := hold 28 (by kernel_rfl)
      have f46 := hold 46 (by kernel_rfl)
      have f47 := hold 47 (by kernel_rfl)
      have f48 := hold 48 (by kernel_rfl)
      have f49 := hold 49 (by kernel_rfl)
      have f50 := hold 50 (by kernel_rfl)
      have f51 := hold 51 (by kernel_rfl)
      have f52 := hold 52 (by kernel_rfl)
      have f53 := hold 53 (by kernel_rfl)
      have f54 := hold 54 (by kernel_rfl)
      have f55 := hold 55 (by kernel_rfl)
      have f56 := hold 56 (by kernel_rfl)
      have f57 := hold 57 (by kernel_rfl)
      have f58 := hold 58 (by kernel_rfl)
      have f59 := hold 59 (by kernel_rfl)
      have f60 := hold 60 (by kernel_rfl)
      have f61 := hold 61 (by kernel_rfl)
      have f62 := hold 62 (by kernel_rfl)
      have f63 := hold 63 (by kernel_rfl)
      have f64 := hold 64 (by kernel_rfl)
      have f65 := hold 65 (by kernel_rfl)
      have f66 := hold 66 (by kernel_rfl)
      have f67 := hold 67 (by kernel_rfl)
      have f68 := hold 68 (by kernel_rfl)
      have f69 := hold 69 (by kernel_rfl)
      have f70 := hold 70 (by kernel_rfl)
      have f71 := hold 71 (by kernel_rfl)
      have f72 := hold 72 (by kernel_rfl)
      have f73 := hold 73 (by kernel_rfl)
      have f74 := hold 74 (by kernel_rfl)
      have f75 := hold 75 (by kernel_rfl)
      have f76 := hold 76 (by kernel_rfl)
      have f77 := hold 77 (by kernel_rfl)
      have f78 := hold 78 (by kernel_rfl)
      have f79 := hold 79 (by kernel_rfl)
      have f80 := hold 80 (by kernel_rfl)
      have f81 := hold 81 (by kernel_rfl)
      have f82 := hold 82 (by kernel_rfl)
      have f83 := hold 83 (by kernel_rfl)
      have f84 := hold 84 (by kernel_rfl)
      have f85 := hold 85 (by kernel_rfl)
      have f86 := hold 86 (by kernel_rfl)
      have f87 := hold 87 (by kernel_rfl)
      have f88 := hold 88 (by kernel_rfl)
      have f89 := hold 89 (by kernel_rfl)
      have f90 := hold 90 (by kernel_rfl)
      have f91 := hold 91 (by kernel_rfl)
      have f92 := hold 92 (by kernel_rfl)
      have f93 := hold 93 (by kernel_rfl)
      have f94 := hold 94 (by kernel_rfl)
      have f95 := hold 95 (by kernel_rfl)
      have f96 := hold 96 (by kernel_rfl)
      have f97 := hold 97 (by kernel_rfl)
      have f98 := hold 98 (by kernel_rfl)
      have f99 := hold 99 (by kernel_rfl)
      have f100 := hold 100 (by kernel_rfl)
      have f101 := hold 101 (by kernel_rfl)
      have f102 := hold 102 (by kernel_rfl)
      have f103 := hold 103 (by kernel_rfl)
      have f104 := hold 104 (by kernel_rfl)
      have f105 := hold 105 (by kernel_rfl)
      have f106 := hold 106 (by kernel_rfl)
      have f107 := hold 107 (by kernel_rfl)
      have f108 := hold 108 (by kernel_rfl)
      have f109 := hold 109 (by kernel_rfl)
      have f110 := hold 110 (by kernel_rfl)
      have f111 := hold 111 (by kernel_rfl)
      have f112 := hold 112 (by kernel_rfl)
      have f113 := hold 113 (by kernel_rfl)
      have f114 := hold 114 (by kernel_rfl)
      have f115 := hold 115 (by kernel_rfl)
      have f116 := hold 116 (by kernel_rfl)
      have f117 := hold 117 (by kernel_rfl)
      have f118 := hold 118 (by kernel_rfl)
      have f119 := hold 119 (by kernel_rfl)
      have f120 := hold 120 (by kernel_rfl)
      have f121 := hold 121 (by kernel_rfl)
      have f122 := hold 122 (by kernel_rfl)
      have f123 := hold 123 (by kernel_rfl)
      have f124 := hold 124 (by kernel_rfl)
      have f125 := hold 125 (by kernel_rfl)
      have f126 := hold 126 (by kernel_rfl)
      have f127 := hold 127 (by kernel_rfl)
      have f128 := hold 128 (by kernel_rfl)
      have f129 := hold 129 (by kernel_rfl)
      have f130 := hold 130 (by kernel_rfl)
      have f131 := hold 131 (by kernel_rfl)
      have f132 := hold 132 (by kernel_rfl)
      have hB : b = _ := act_list b (show b.tmps.size = 133 from hsz) hdf
      rw [hB]
      simp only [List.range, List.range.loop, List.map_cons, List.map_nil, f0, f1, f2, f3, f4, f5, f6, f9, f10, f11, f12, f13, f14, f15, f16, f17, f18, f19, f20, f21, f22, f23, f24, f25, f26, f27, f28, f46, f47, f48, f49, f50, f51, f52, f53, f54, f55, f56, f57, f58, f59, f60, f61, f62, f63, f64, f65, f66, f67, f68, f69, f70, f71, f72, f73, f74, f75, f76, f77, f78, f79, f80, f81, f82, f83, f84, f85, f86, f87, f88, f89, f90, f91, f92, f93, f94, f95, f96, f97, f98, f99, f100, f101, f102, f103, f104, f105, f106, f107, f108, f109, f110, f111, f112, f113, f114, f115, f116, f117, f118, f119, f120, f121, f122, f123, f124, f125, f126, f127, f128, f129, f130, f131, f132]
      generalize sl b 7 = v7, sl b 8 = v8, sl b 29 = v29, sl b 30 = v30, sl b 31 = v31, sl b 32 = v32, sl b 33 = v33, sl b 34 = v34, sl b 35 = v35, sl b 36 = v36, sl b 37 = v37, sl b 38 = v38, sl b 39 = v39, sl b 40 = v40, sl b 41 = v41, sl b 42 = v42, sl b 43 = v43, sl b 44 = v44, sl b 45 = v45 at p1 p2 ⊢
      simp only [sl, List.getElem?_toArray, List.getElem?_cons_succ, List.getElem?_cons_zero, Option.getD_some]
      clear hB hold hsz hdf hF f0 f1 f2 f3 f4 f5 f6 f9 f10 f11 f12 f13 f14 f15 f16 f17 f18 f19 f20 f21 f22 f23 f24 f25 f26 f27 f28 f46 f47 f48 f49 f50 f51 f52 f53 f54 f55 f56 f57 f58 f59 f60 f61 f62 f63 f64 f65 f66 f67 f68 f69 f70 f71 f72 f73 f74 f75 f76 f77 f78 f79 f80 f81 f82 f83 f84 f85 f86 f87 f88 f89 f90 f91 f92 f93 f94 f95 f96 f97 f98 f99 f100 f101 f102 f103 f104 f105 f106 f107 f108 f109 f110 f111 f112 f113 f114 f115 f116 f117 f118 f119 f120 f121 f122 f123 f124 f125 f126 f127 f128 f129 f130 f131 f132
      have eq1 : lstA (m + 1) = ss ++ [nmA m] := by rw [lstA, hss]
      go_wp2
      go_roundw
      case rel => exact ⟨m + 1, zs ++ [s1], by omega, by omega, (by
        intro z hz
        rcases List.mem_append.1 hz with h | h
        · exact hzb z h
        · simp only [List.mem_singleton] at h; subst h; exact hs1), by go_num, by rw [eq1]; exact p1, p2, hR.bel⟩
      case measure => simp [intOf]; omega
  · have hex : ¬ ((m : Int) < len0) ∨ ((m : Int) < len0 ∧ ¬ ((m : Int) < 10)) := by omega
    clear w0 hlt
    rcases Nat.eq_zero_or_pos m with rfl | hpos
    · obtain ⟨b1, c1, rfl⟩ := slice_of_own hown1
      replace hex : ¬ (((0 : Nat) : Int) < len0) := by omega
      go_wp2
      go_ret
      exact ⟨rfl, hbr⟩
    · obtain ⟨g7, c7, rfl, hg7B, hg7s, hg7c⟩ := own_slice hown1 hpos
      obtain ⟨g8, c8, rfl, hg8B, hg8s, hg8c⟩ := own_slice hown2 hpos
      obtain ⟨hs, hl⟩ := strs_own hown1 (by omega)
      obtain ⟨hzr, hzl⟩ := ints_own hown2 (by unfold maxLen; omega)
      obtain ⟨q, e1q, e2q, e3q, e4q⟩ := bst_prop (lstA m) zs m hpos
      have kB := fun W (hb : Below wr.heap.size wr W) => best_any _ _ c7 c8 m (lstA m) zs q W (hs.later hb) (hzr.later hb) hl e1q
      obtain ⟨dd, hdd⟩ : ∃ k, by_ % 50 = k := ⟨_, rfl⟩
      have kd := fun W => within6_any by_ 50 dd (by decide) (by decide) hdd W
      have d0 : 0 ≤ dd := by omega
      have d1 : dd < 50 := by omega
      obtain ⟨zq, hzqe⟩ : ∃ z, zs.getD q 0 = z := ⟨_, rfl⟩
      have hzqb : 0 ≤ zq ∧ zq < 100 := by
        rw [← hzqe, List.getD_eq_getElem?_getD, List.getElem?_eq_getElem (by omega)]
        exact hzb _ (List.getElem_mem _)
      have hm1 : ¬ (m : Int) = 0 := by omega
      have hm2 : ((m : Int) == 0) = false := by simp; omega
      have hq0 : decide ((q : Int) < 0) = false := by simp
      have hq00 : ¬ (q : Int) < 0 := by omega
      have hqm : ¬ (m : Int) ≤ (q : Int) := by omega
      have hqm' : decide ((m : Int) ≤ (q : Int)) = false := by simp; omega
      clear hdd
      rcases hex with h1 | ⟨h1, h2⟩
      all_goals
        go_upto_region 15 with (first
          | (go_at_call 11; refine (kB _ (Below.refl _ _)).mono ?_; rintro e wq ⟨rfl, hbq⟩)
          | (go_at_call 7; refine (kd _).mono ?_; rintro e wq ⟨rfl, rfl⟩))
        have hz8 := own_keep hown2 hbq
        have hs7 := own_keep hown1 hbq
        have hzq := own_cell hz8 q (.int .i64 zq) (by
          rw [← hzqe, List.getElem?_map, List.getElem?_eq_getElem (by omega), List.getD_eq_getElem?_getD, List.getElem?_eq_getElem (by omega)]
          rfl)
        have hbq2 := fin hbq hbr
        obtain ⟨d, hd⟩ : ∃ d, 1 + dd = d := ⟨_, rfl⟩
        rw [hd]
        have hd1 : 1 ≤ d ∧ d ≤ 50 := by omega
        have e1 : IntKind.i64.wrap (zq - d) = zq - d := by rw [IntKind.wrap_i64]; omega
        have e2 : IntKind.i64.wrap (zq + d) = zq + d := by rw [IntKind.wrap_i64]; omega
        have hq1 : (q : Int) < (m : Int) := by omega
        have hq2 : (0 : Int) ≤ (q : Int) := by omega
        have hg8w : g8 < wq.heap.size := Nat.lt_of_lt_of_le hg8s hbq.size
        have hg7w : g7 < wq.heap.size := Nat.lt_of_lt_of_le hg7s hbq.size
        refine wp_region_sep cpO cpU (fun w1 => Below wq.heap.size wq w1) (cpF wq.heap.size g8 m c8 q zs zq d) (by kernel_rfl) (by kernel_rfl) (Below.refl _ _).drew ?kB ?kG ?lt ?step ?rest
        case kB =>
          intro j r w1 w2 hR hb hF
          unfold cpF at *
          split at hF
          all_goals first
            | exact hF
            | exact own_keep hF hb
            | (obtain ⟨D, hD, hr, hx⟩ := hF
               exact ⟨D, hD, hr, hx.later hb⟩)
            | (obtain ⟨D, hD, hr, hx⟩ := hF
               exact ⟨D, hD, hr, cell_below hb hx (block_lt hx)⟩)
        case kG =>
          intro j r w1 w2 qq hR hg hne hF
          unfold cpF at *
          split at hF
          all_goals first
            | exact hF
            | exact own_apart hF hg (hne rfl)
            | (obtain ⟨D, hD, hr, hx⟩ := hF
               exact ⟨D, hD, hr, hx.grown hg (fun e => hne rfl (by rw [hr]; exact e))⟩)
            | (obtain ⟨D, hD, hr, hx⟩ := hF
               exact ⟨D, hD, hr, hg.cell hx (fun e => hne rfl (by rw [hr]; exact e))⟩)
        case lt =>
          intro j r w1 g ho hF hb
          unfold cpF at hF
          split at hF
          all_goals first
            | exact (hF.lt g hb).2
            | (obtain ⟨D, hD, hr, hx⟩ := hF
               rw [hr] at hb
               cases hb
               exact hx.lt)
            | (obtain ⟨D, hD, hr, hx⟩ := hF
               rw [hr] at hb
               cases hb
               exact block_lt hx)
            | (exfalso
               revert ho
               decide)
            | exact hF.elim
        case step =>
          intro i o ho b w1 hR hold hdep
          have o8 : sl b 8 = .slice (some ⟨g8, 0, none⟩) m c8 := hold 8 (by kernel_rfl)
          have o10 : sl b 10 = .int .i64 q := hold 10 (by kernel_rfl)
          have o11 : sl b 11 = .int .i64 d := hold 11 (by kernel_rfl)
          have hb0 := Below.refl w1.heap.size w1
          have hz1 := own_keep hz8 hR
          have hcq : w1.cell? ⟨g8, q, none⟩ = some (.int .i64 zq) := cell_below hR hzq (block_lt hzq)
          have hH := hR.size
          rcases i with _ | _ | _ | _ | _ | _ | _ | _ | _ | _ | _ | _ | _ | _ | _ | _ | _ | _ | _ | _ | _ | _ | _ | _ | i
          all_goals try cases ho
          · exact okS_val rfl rfl (want_none rfl b) (by simp [go_sem] <;> first | rfl | exact ⟨rfl, rfl⟩) (fin (up hb0 _) hR) (up hb0 _) (fun _ g hg => by cases hg; exact Nat.le_refl _) ⟨_, hH, rfl, Box.new _ _ _ rfl⟩
          · exact okS_val rfl rfl (want_none rfl b) (by simp [go_sem, o8]) hR hb0 (fun h => absurd h (by decide)) rfl
          · obtain ⟨D0, hD0, f63, g63⟩ : ∃ D, wq.heap.size ≤ D ∧ sl b 63 = .slice (some ⟨D, 0, none⟩) 0 0 ∧ Box w1 D #[] 3 := hdep 0 _ rfl (by kernel_rfl) (.inl rfl)
            have f64 : sl b 64 = .slice (some ⟨g8, 0, none⟩) m c8 := hdep 1 _ rfl (by kernel_rfl) (.inl rfl)
            refine okS_copy rfl rfl rfl (.tmp 63) (.tmp 64) rfl wq.heap.size D0 (by simpa [go_sem] using f63) g63 hD0 g8 m c8 zs (by simpa [go_sem] using f64) hzl (hz1.cells (g := g8) rfl) hpos (by omega) hH ?_
            intro v2 w2 hown hb
            exact ⟨fin hb hR, hown⟩
          · exact okS_val rfl rfl (want_none rfl b) (by simp [go_sem, o8]) hR hb0 (fun h => absurd h (by decide)) rfl
          · exact okS_val rfl rfl (want_none rfl b) (by simp [go_sem, o10]) hR hb0 (fun h => absurd h (by decide)) rfl
          · have f66 : sl b 66 = .slice (some ⟨g8, 0, none⟩) m c8 := hdep 3 _ rfl (by kernel_rfl) (.inl rfl)
            have f67 : sl b 67 = .int .i64 q := hdep 4 _ rfl (by kernel_rfl) (.inl rfl)
            exact okS_val rfl rfl (want_none rfl b) (by simp [go_sem, f66, f67, hq1, hq2]) hR hb0 (fun h => absurd h (by decide)) rfl
          · have f68 : sl b 68 = .pointer (some ⟨g8, q, none⟩) := hdep 5 _ rfl (by kernel_rfl) (.inl rfl)
            exact okS_val rfl rfl (want_none rfl b) (by simp [go_sem, f68, hcq]) hR hb0 (fun h => absurd h (by decide)) rfl
          · exact okS_val rfl rfl (want_none rfl b) (by simp [go_sem, o11]) hR hb0 (fun h => absurd h (by decide)) rfl
          · have f69 : sl b 69 = .int .i64 zq := hdep 6 _ rfl (by kernel_rfl) (.inl rfl)
            have f70 : sl b 70 = .int .i64 d := hdep 7 _ rfl (by kernel_rfl) (.inl rfl)
            exact okS_val rfl rfl (want_none rfl b) (by simp [go_sem, f69, f70, e1]) hR hb0 (fun h => absurd h (by decide)) rfl
          · have f71 : sl b 71 = .int .i64 (zq - d) := hdep 8 _ rfl (by kernel_rfl) (.inl rfl)
            exact okS_val rfl rfl (want_none rfl b) (by simp [go_sem, f71] <;> first | rfl | exact ⟨rfl, rfl⟩) (fin (up hb0 _) hR) (up hb0 _) (fun _ g hg => by cases hg; exact Nat.le_refl _) ⟨_, hH, rfl, by simp⟩
          · have f65 : w1.ownsRow wq.heap.size 3 1 (sl b 65) m ((zs).map (Value.int .i64)) := hdep 2 _ rfl (by kernel_rfl) (.inr rfl)
            obtain ⟨D9, hD9, f72, g72⟩ : ∃ D, wq.heap.size ≤ D ∧ sl b 72 = .slice (some ⟨D, 0, none⟩) 1 1 ∧ w1.cell? ⟨D, 0, none⟩ = some (.int .i64 (zq - d)) := hdep 9 _ rfl (by kernel_rfl) (.inl rfl)
            refine okS_num rfl rfl rfl (.tmp 65) (.tmp 72) rfl wq.heap.size (sl b 65) m zs (by simp [go_sem]) f65 D9 (zq - d) (by simpa [go_sem] using f72) g72 (by omega) hpos hH 2 rfl rfl (by kernel_rfl) rfl ?_
            intro v2 w2 qq hown hg hqb
            exact ⟨hR.grown hg hR.size (fun j hj => by cases hj; exact hqb), hown⟩
          · exact okS_val rfl rfl (want_none rfl b) (by simp [go_sem] <;> first | rfl | exact ⟨rfl, rfl⟩) (fin (up hb0 _) hR) (up hb0 _) (fun _ g hg => by cases hg; exact Nat.le_refl _) ⟨_, hH, rfl, Box.new _ _ _ rfl⟩
          · exact okS_val rfl rfl (want_none rfl b) (by simp [go_sem, o8]) hR hb0 (fun h => absurd h (by decide)) rfl
          · obtain ⟨D11, hD11, f74, g74⟩ : ∃ D, wq.heap.size ≤ D ∧ sl b 74 = .slice (some ⟨D, 0, none⟩) 0 0 ∧ Box w1 D #[] 3 := hdep 11 _ rfl (by kernel_rfl) (.inl rfl)
            have f75 : sl b 75 = .slice (some ⟨g8, 0, none⟩) m c8 := hdep 12 _ rfl (by kernel_rfl) (.inl rfl)
            refine okS_copy rfl rfl rfl (.tmp 74) (.tmp 75) rfl wq.heap.size D11 (by simpa [go_sem] using f74) g74 hD11 g8 m c8 zs (by simpa [go_sem] using f75) hzl (hz1.cells (g := g8) rfl) hpos (by omega) hH ?_
            intro v2 w2 hown hb
            exact ⟨fin hb hR, hown⟩
          · exact okS_val rfl rfl (want_none rfl b) (by simp [go_sem, o8]) hR hb0 (fun h => absurd h (by decide)) rfl
          · exact okS_val rfl rfl (want_none rfl b) (by simp [go_sem, o10]) hR hb0 (fun h => absurd h (by decide)) rfl
          · have f77 : sl b 77 = .slice (some ⟨g8, 0, none⟩) m c8 := hdep 14 _ rfl (by kernel_rfl) (.inl rfl)
            have f78 : sl b 78 = .int .i64 q := hdep 15 _ rfl (by kernel_rfl) (.inl rfl)
            exact okS_val rfl rfl (want_none rfl b) (by simp [go_sem, f77, f78, hq1, hq2]) hR hb0 (fun h => absurd h (by decide)) rfl
          · have f79 : sl b 79 = .pointer (some ⟨g8, q, none⟩) := hdep 16 _ rfl (by kernel_rfl) (.inl rfl)
            exact okS_val rfl rfl (want_none rfl b) (by simp [go_sem, f79, hcq]) hR hb0 (fun h => absurd h (by decide)) rfl
          · exact okS_val rfl rfl (want_none rfl b) (by simp [go_sem, o11]) hR hb0 (fun h => absurd h (by decide)) rfl
          · have f80 : sl b 80 = .int .i64 zq := hdep 17 _ rfl (by kernel_rfl) (.inl rfl)
            have f81 : sl b 81 = .int .i64 d := hdep 18 _ rfl (by kernel_rfl) (.inl rfl)
            exact okS_val rfl rfl (want_none rfl b) (by simp [go_sem, f80, f81, e2]) hR hb0 (fun h => absurd h (by decide)) rfl
          · have f82 : sl b 82 = .int .i64 (zq + d) := hdep 19 _ rfl (by kernel_rfl) (.inl rfl)
            exact okS_val rfl rfl (want_none rfl b) (by simp [go_sem, f82] <;> first | rfl | exact ⟨rfl, rfl⟩) (fin (up hb0 _) hR) (up hb0 _) (fun _ g hg => by cases hg; exact Nat.le_refl _) ⟨_, hH, rfl, by simp⟩
          · have f76 : w1.ownsRow wq.heap.size 3 1 (sl b 76) m ((zs).map (Value.int .i64)) := hdep 13 _ rfl (by kernel_rfl) (.inr rfl)
            obtain ⟨D20, hD20, f83, g83⟩ : ∃ D, wq.heap.size ≤ D ∧ sl b 83 = .slice (some ⟨D, 0, none⟩) 1 1 ∧ w1.cell? ⟨D, 0, none⟩ = some (.int .i64 (zq + d)) := hdep 20 _ rfl (by kernel_rfl) (.inl rfl)
            refine okS_num rfl rfl rfl (.tmp 76) (.tmp 83) rfl wq.heap.size (sl b 76) m zs (by simp [go_sem]) f76 D20 (zq + d) (by simpa [go_sem] using f83) g83 (by omega) hpos hH 13 rfl rfl (by kernel_rfl) rfl ?_
            intro v2 w2 qq hown hg hqb
            exact ⟨hR.grown hg hR.size (fun j hj => by cases hj; exact hqb), hown⟩
          · have f73 : w1.ownsRow wq.heap.size 3 1 (sl b 73) (m + 1) ((zs ++ [zq - d]).map (Value.int .i64)) := hdep 10 _ rfl (by kernel_rfl) (.inr rfl)
            obtain ⟨va, vc, hv⟩ := slice_of_own f73
            exact okS_take rfl rfl (want_none rfl b) (by simp [go_sem, hv]; rfl) hR 10 rfl rfl (by kernel_rfl) (by rw [← hv]; rfl) (by rw [← hv]; exact f73)
          · have f84 : w1.ownsRow wq.heap.size 3 1 (sl b 84) (m + 1) ((zs ++ [zq + d]).map (Value.int .i64)) := hdep 21 _ rfl (by kernel_rfl) (.inr rfl)
            obtain ⟨va, vc, hv⟩ := slice_of_own f84
            exact okS_take rfl rfl (want_none rfl b) (by simp [go_sem, hv]; rfl) hR 21 rfl rfl (by kernel_rfl) (by rw [← hv]; rfl) (by rw [← hv]; exact f84)
        case rest =>
          intro b wz hR hsz hdf hold hF
          have p12 : wz.ownsRow wq.heap.size 3 1 (sl b 12) (m + 1) ((zs ++ [zq - d]).map (Value.int .i64)) := hF 22 _ rfl rfl
          have p13 : wz.ownsRow wq.heap.size 3 1 (sl b 13) (m + 1) ((zs ++ [zq + d]).map (Value.int .i64)) := hF 23 _ rfl rfl
          have f0 := hold 0 (by kernel_rfl)
          have f1 := hold 1 (by kernel_rfl)
          have f2 := hold 2 (by kernel_rfl)
          have f3 := hold 3 (by kernel_rfl)
          have f4 := hold 4 (by kernel_rfl)
          have f5 := hold 5 (by kernel_rfl)
          have f6 := hold 6 (by kernel_rfl)
          have f7 := hold 7 (by kernel_rfl)
          have f8 := hold 8 (by kernel_rfl)
          have f9 := hold 9 (by kernel_rfl)
          have f10 := hold 10 (by kernel_rfl)
          have f11 := hold 11 (by kernel_rfl)
          have f14 := hold 14 (by kernel_rfl)
          have f15 := hold 15 (by kernel_rfl)
          have f16 := hold 16 (by kernel_rfl)
          have f17 := hold 17 (by kernel_rfl)
          have f18 := hold 18 (by kernel_rfl)
          have f19 := hold 19 (by kernel_rfl)
          have f20 := hold 20 (by kernel_rfl)
          have f21 := hold 21 (by kernel_rfl)
          have f22 := hold 22 (by kernel_rfl)
          have f23 := hold 23 (by kernel_rfl)
          have f24 := hold 24 (by kernel_rfl)
          have f25 := hold 25 (by kernel_rfl)
          have f26 := hold 26 (by kernel_rfl)
          have f27 := hold 27 (by kernel_rfl)
          have f28 := hold 28 (by kernel_rfl)
          have f29 := hold 29 (by kernel_rfl)
          have f30 := hold 30 (by kernel_rfl)
          have f31 := hold 31 (by kernel_rfl)
          have f32 := hold 32 (by kernel_rfl)
          have f33 := hold 33 (by kernel_rfl)
          have f34 := hold 34 (by kernel_rfl)
          have f35 := hold 35 (by kernel_rfl)
          have f36 := hold 36 (by kernel_rfl)
          have f37 := hold 37 (by kernel_rfl)
          have f38 := hold 38 (by kernel_rfl)
          have f39 := hold 39 (by kernel_rfl)
          have f40 := hold 40 (by kernel_rfl)
          have f41 := hold 41 (by kernel_rfl)
          have f42 := hold 42 (by kernel_rfl)
          have f43 := hold 43 (by kernel_rfl)
          have f44 := hold 44 (by kernel_rfl)
          have f45 := hold 45 (by kernel_rfl)
          have f46 := hold 46 (by kernel_rfl)
          have f47 := hold 47 (by kernel_rfl)
          have f48 := hold 48 (by kernel_rfl)
          have f49 := hold 49 (by kernel_rfl)
          have f50 := hold 50 (by kernel_rfl)
          have f51 := hold 51 (by kernel_rfl)
          have f52 := hold 52 (by kernel_rfl)
          have f53 := hold 53 (by kernel_rfl)
          have f54 := hold 54 (by kernel_rfl)
          have f55 := hold 55 (by kernel_rfl)
          have f56 := hold 56 (by kernel_rfl)
          have f57 := hold 57 (by kernel_rfl)
          have f58 := hold 58 (by kernel_rfl)
          have f59 := hold 59 (by kernel_rfl)
          have f60 := hold 60 (by kernel_rfl)
          have f61 := hold 61 (by kernel_rfl)
          have f62 := hold 62 (by kernel_rfl)
          have f85 := hold 85 (by kernel_rfl)
          have f86 := hold 86 (by kernel_rfl)
          have f87 := hold 87 (by kernel_rfl)
          have f88 := hold 88 (by kernel_rfl)
          have f89 := hold 89 (by kernel_rfl)
          have f90 := hold 90 (by kernel_rfl)
          have f91 := hold 91 (by kernel_rfl)
          have f92 := hold 92 (by kernel_rfl)
          have f93 := hold 93 (by kernel_rfl)
          have f94 := hold 94 (by kernel_rfl)
          have f95 := hold 95 (by kernel_rfl)
          have f96 := hold 96 (by kernel_rfl)
          have f97 := hold 97 (by kernel_rfl)
          have f98 := hold 98 (by kernel_rfl)
          have f99 := hold 99 (by kernel_rfl)
          have f100 := hold 100 (by kernel_rfl)
          have f101 := hold 101 (by kernel_rfl)
          have f102 := hold 102 (by kernel_rfl)
          have f103 := hold 103 (by kernel_rfl)
          have f104 := hold 104 (by kernel_rfl)
          have f105 := hold 105 (by kernel_rfl)
          have f106 := hold 106 (by kernel_rfl)
          have f107 := hold 107 (by kernel_rfl)
          have f108 := hold 108 (by kernel_rfl)
          have f109 := hold 109 (by kernel_rfl)
          have f110 := hold 110 (by kernel_rfl)
          have f111 := hold 111 (by kernel_rfl)
          have f112 := hold 112 (by kernel_rfl)
          have f113 := hold 113 (by kernel_rfl)
          have f114 := hold 114 (by kernel_rfl)
          have f115 := hold 115 (by kernel_rfl)
          have f116 := hold 116 (by kernel_rfl)
          have f117 := hold 117 (by kernel_rfl)
          have f118 := hold 118 (by kernel_rfl)
          have f119 := hold 119 (by kernel_rfl)
          have f120 := hold 120 (by kernel_rfl)
          have f121 := hold 121 (by kernel_rfl)
          have f122 := hold 122 (by kernel_rfl)
          have f123 := hold 123 (by kernel_rfl)
          have f124 := hold 124 (by kernel_rfl)
          have f125 := hold 125 (by kernel_rfl)
          have f126 := hold 126 (by kernel_rfl)
          have f127 := hold 127 (by kernel_rfl)
          have f128 := hold 128 (by kernel_rfl)
          have f129 := hold 129 (by kernel_rfl)
          have f130 := hold 130 (by kernel_rfl)
          have f131 := hold 131 (by kernel_rfl)
          have f132 := hold 132 (by kernel_rfl)
          have hB : b = _ := act_list b (show b.tmps.size = 133 from hsz) hdf
          rw [hB]
          simp only [List.range, List.range.loop, List.map_cons, List.map_nil, f0, f1, f2, f3, f4, f5, f6, f7, f8, f9, f10, f11, f14, f15, f16, f17, f18, f19, f20, f21, f22, f23, f24, f25, f26, f27, f28, f29, f30, f31, f32, f33, f34, f35, f36, f37, f38, f39, f40, f41, f42, f43, f44, f45, f46, f47, f48, f49, f50, f51, f52, f53, f54, f55, f56, f57, f58, f59, f60, f61, f62, f85, f86, f87, f88, f89, f90, f91, f92, f93, f94, f95, f96, f97, f98, f99, f100, f101, f102, f103, f104, f105, f106, f107, f108, f109, f110, f111, f112, f113, f114, f115, f116, f117, f118, f119, f120, f121, f122, f123, f124, f125, f126, f127, f128, f129, f130, f131, f132]
          generalize sl b 12 = v12, sl b 13 = v13, sl b 63 = v63, sl b 64 = v64, sl b 65 = v65, sl b 66 = v66, sl b 67 = v67, sl b 68 = v68, sl b 69 = v69, sl b 70 = v70, sl b 71 = v71, sl b 72 = v72, sl b 73 = v73, sl b 74 = v74, sl b 75 = v75, sl b 76 = v76, sl b 77 = v77, sl b 78 = v78, sl b 79 = v79, sl b 80 = v80, sl b 81 = v81, sl b 82 = v82, sl b 83 = v83, sl b 84 = v84 at p12 p13 ⊢
          simp only [sl, List.getElem?_toArray, List.getElem?_cons_succ, List.getElem?_cons_zero, Option.getD_some]
          clear hB hold hsz hdf hF f0 f1 f2 f3 f4 f5 f6 f7 f8 f9 f10 f11 f14 f15 f16 f17 f18 f19 f20 f21 f22 f23 f24 f25 f26 f27 f28 f29 f30 f31 f32 f33 f34 f35 f36 f37 f38 f39 f40 f41 f42 f43 f44 f45 f46 f47 f48 f49 f50 f51 f52 f53 f54 f55 f56 f57 f58 f59 f60 f61 f62 f85 f86 f87 f88 f89 f90 f91 f92 f93 f94 f95 f96 f97 f98 f99 f100 f101 f102 f103 f104 f105 f106 f107 f108 f109 f110 f111 f112 f113 f114 f115 f116 f117 f118 f119 f120 f121 f122 f123 f124 f125 f126 f127 f128 f129 f130 f131 f132
          obtain ⟨a12, c12, rfl⟩ := slice_of_own p12
          obtain ⟨a13, c13, rfl⟩ := slice_of_own p13
          have hs9 := own_keep hs7 hR
          have hz9 := own_keep hz8 hR
          have hbz := fin hR hbq2
          have hHz := hR.size
          obtain ⟨i0, hi, hz0', hz1', hz2'⟩ := info_parts info9
          obtain ⟨p, hpe⟩ : ∃ k : Nat, at_ % m = k := ⟨(at_ % m).toNat, by have := Int.emod_nonneg at_ (show (m : Int) ≠ 0 by omega); omega⟩
          have hpm : p < m := by have := Int.emod_lt_of_pos at_ (show (0 : Int) < m by omega); omega
          have kp := fun W => within6_any at_ m p (by omega) (by omega) hpe W
          obtain ⟨zp, hzpe⟩ : ∃ z, zs.getD p 0 = z := ⟨_, rfl⟩
          have hzpb : 0 ≤ zp ∧ zp < 100 := by
            rw [← hzpe, List.getD_eq_getElem?_getD, List.getElem?_eq_getElem (by omega)]
            exact hzb _ (List.getElem_mem _)
          obtain ⟨zp0, zp1⟩ := hzpb
          obtain ⟨dd1, dd2⟩ := hd1
          have hp1 : (p : Int) < (m : Int) := by omega
          have hp2 : (0 : Int) ≤ (p : Int) := by omega
          have hcells := (own_keep hs9 (up (Below.refl wz.heap.size wz) (.cells #[] 9))).cells (g := g7) rfl
          clear hpe hR hs7 hz8 hzq e1 e2 kB kd hs hzr hbq hbk hbr hown1 hown2 hbq2
          go_upto_region 19 with (first
            | (at_builtin; refine wpList_append_own _ rfl _ _ 32 rfl wz.heap.size 9 i0 (.string ⟨#[]⟩) 1 16 Try.underlying32 hi hz0' hz1' hz2' rfl (by decide) _ _ _ rfl (hownA.alloc _) ⟨_, 0, none⟩ 1 1 [.string ⟨#[97, 97]⟩] rfl rfl (cell_one _ _ _) (fun u hu => by simp at hu; subst hu; rfl) (by unfold maxLen; omega) (by omega) (by have := hbA.size; simp; omega) ?_; intro vB wB hownB hgrowB hnilB
               have hbB : Below wz.heap.size wz wB := (up hbA (.cells #[.string ⟨#[97, 97]⟩] 9)).grown hgrowB (up hbA (.cells #[.string ⟨#[97, 97]⟩] 9)).size (fun j hj => own_lt hownA j hj)
               have hz10 := own_keep hz9 hbB
               have hcp := own_cell hz10 p (.int .i64 zp) (by
                 rw [← hzpe, List.getElem?_map, List.getElem?_eq_getElem (by omega), List.getD_eq_getElem?_getD, List.getElem?_eq_getElem (by omega)]
                 rfl)
               have hfp := own_frozen hz10 p)
            | (at_builtin; refine wpList_append_own _ rfl _ _ 32 rfl wz.heap.size 9 i0 (.string ⟨#[]⟩) 1 16 Try.underlying32 hi hz0' hz1' hz2' rfl (by decide) (.slice (some ⟨wz.heap.size, 0, none⟩) 0 0) 0 [] rfl (World.ownsRow_lit _ _ _ (Nat.le_refl _) (Nat.zero_le _) rfl) ⟨g7, 0, none⟩ m c7 ((lstA m).map Value.string) rfl (by simp [lstA_len]) hcells (strings_oneCell _) (by unfold maxLen; omega) (by omega) (by simp) ?_; intro vA wA hownA hgrowA hnilA
               have hbA : Below wz.heap.size wz wA := (up (Below.refl wz.heap.size wz) (.cells #[] 9)).grown hgrowA (by simp) (fun j hj => by cases hj; exact Nat.le_refl _))
            | (go_at_call 7; refine (kp _).mono ?_; rintro e wB ⟨rfl, rfl⟩))
          have hst := hz10.stored p (.int .i64 (zp - d))
          have hs10 := own_beside (own_keep hs9 hbB) hz10 (by decide) hst.2
          have h12 := own_apart (own_keep p12 hbB) hst.2 (fun e => by have := own_lt p12 _ e; omega)
          have h13 := own_apart (own_keep p13 hbB) hst.2 (fun e => by have := own_lt p13 _ e; omega)
          have hownB' : wB.ownsRow wz.heap.size 9 1 vB (m + 1) ((lstA m ++ [(⟨#[97, 97]⟩ : ByteArray)]).map Value.string) := by simpa using hownB
          have hB10 := own_beside hownB' hz10 (by decide) hst.2
          have hz11 : (wB.setCell ⟨g8, p, none⟩ (.int .i64 (zp - d))).ownsRow w.heap.size 3 1 (.slice (some ⟨g8, 0, none⟩) m c8) m ((zs.set p (zp - d)).map (Value.int .i64)) := by
            have := hst.1
            rw [← List.map_set] at this
            exact this
          have hbS : Below w.heap.size w (wB.setCell ⟨g8, p, none⟩ (.int .i64 (zp - d))) := (fin hbB hbz).setCell (p := ⟨g8, p, none⟩) hg8B _
          clear hst hownB hownB' hgrowB hnilB hownA hgrowA hnilA hbA hbB hz10 hcp hfp hcells p12 p13 hs9 hz9 hbz hHz kp
          generalize wB.setCell ⟨g8, p, none⟩ (.int .i64 (zp - d)) = wS at *
          obtain ⟨aB, cB, rfl⟩ := slice_of_own hB10
          obtain ⟨sN, lN⟩ := strs_own hs10 (by omega)
          obtain ⟨sO, lO⟩ := strs_own hB10 (by omega)
          obtain ⟨rS, lS⟩ := ints_own hz11 (by unfold maxLen; omega)
          obtain ⟨r12, l12⟩ := ints_own h12 (by unfold maxLen; omega)
          obtain ⟨r13, l13⟩ := ints_own h13 (by unfold maxLen; omega)
          obtain ⟨jj, e1j, e2j, _, _⟩ := bst_prop (lstA m) (zs.set p (zp - d)) m hpos
          have hjq : p ≠ q → jj = q := fun hne => by
            have := bst_less (lstA m) zs m q p (zp - d) hzl e1q hpm hne (by omega)
            rw [e1j] at this
            omega
          have kJ := fun W (hb : Below wS.heap.size wS W) => best_any _ _ c7 c8 m (lstA m) (zs.set p (zp - d)) jj W (sN.later hb) (rS.later hb) lN e1j
          have kL := fun W (hb : Below wS.heap.size wS W) => best_any _ _ cB c12 (m + 1) (lstA m ++ [(⟨#[97, 97]⟩ : ByteArray)]) (zs ++ [zq - d]) q W (sO.later hb) (r12.later hb) lO (by
            rw [bst_behind _ _ _ _ m q (lstA_len m) hzl e1q e2q, hzqe]
            have : betB ⟨#[97, 97]⟩ (zq - d) ((lstA m).getD q ByteArray.empty) zq = false := by
              cases hx : betB ⟨#[97, 97]⟩ (zq - d) ((lstA m).getD q ByteArray.empty) zq with
              | false => rfl
              | true => rw [bet_iff] at hx; rcases hx with hx | ⟨hx, _⟩ <;> omega
            rw [this]
            rfl)
          have kM := fun W (hb : Below wS.heap.size wS W) => best_any _ _ cB c13 (m + 1) (lstA m ++ [(⟨#[97, 97]⟩ : ByteArray)]) (zs ++ [zq + d]) m W (sO.later hb) (r13.later hb) lO (by
            rw [bst_behind _ _ _ _ m q (lstA_len m) hzl e1q e2q, hzqe]
            have : betB ⟨#[97, 97]⟩ (zq + d) ((lstA m).getD q ByteArray.empty) zq = true := (bet_iff _ _ _ _).2 (.inl (by omega))
            rw [this]
            rfl)
          have hj0 : decide ((0 : Int) ≤ (jj : Int)) = true := by simp
          clear sN sO rS r12 r13 lN lO lS l12 l13 hs10 hz11 h12 h13 hB10 e1q e3q e4q e1j hzb hzpe hzqe
          by_cases hpq : p = q
          · subst hpq
            clear hjq
            go_wp2_with (first
              | (go_at_call_of 11 (Value.slice (some ⟨g7, 0, none⟩) m c7); refine (kJ _ (Below.refl _ _)).mono ?_; rintro e w5 ⟨rfl, hb5⟩)
              | (go_at_call 11
                 first
                 | (have hx := hb6; clear hx; refine (kM _ (fin hb6 hb5)).mono ?_; rintro e w7 ⟨rfl, hb7⟩)
                 | (refine (kL _ hb5).mono ?_; rintro e w6 ⟨rfl, hb6⟩)))
            go_ret
            exact ⟨rfl, fin hb7 (fin hb6 (fin hb5 hbS))⟩
          · have hjq' := hjq hpq
            subst hjq'
            have hpq' : ((p : Int) == (jj : Int)) = false := by simp; omega
            clear hjq
            go_wp2_with (first
              | (go_at_call_of 11 (Value.slice (some ⟨g7, 0, none⟩) m c7); refine (kJ _ (Below.refl _ _)).mono ?_; rintro e w5 ⟨rfl, hb5⟩)
              | (go_at_call 11
                 first
                 | (have hx := hb6; clear hx; refine (kM _ (fin hb6 hb5)).mono ?_; rintro e w7 ⟨rfl, hb7⟩)
                 | (refine (kL _ hb5).mono ?_; rintro e w6 ⟨rfl, hb6⟩)))
            go_ret
            exact ⟨rfl, fin hb7 (fin hb6 (fin hb5 hbS))⟩

end Go.Proofs.Ytmkbllkfipcghab
