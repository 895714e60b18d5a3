/- The contracts of the chapter's own Same and Pods, of rows that are the same. -/
import Derived.Test.YtgcicillmljglaaSL
import Derived.Deep.DeepCutAuto
import Derived.RegionTactic
import Derived.WalkSmall
import Derived.Deep.QuietTactic
namespace Go.Proofs.Ytgcicillmljglaa
open Go.RowKit Go.Maps
attribute [local go_sem ↓] Go.wp_at_zero Go.wp_at_succ

/-- This block holds these cells. -/
def Box (w : World) (B : Nat) (cs : Array Value) (t : TypeId) : Prop := w.heap[B]? = some (.cells cs t (0, 0))

section
variable {w w' : World} {B : Nat} {cs : Array Value} {t : TypeId} {x0 x1 x2 x3 x4 x5 x6 : Value}
theorem Box.new (w : World) (cs : Array Value) (t : TypeId) (hB : w.heap.size = B) : Box (w.alloc (.cells cs t)) B cs t := by subst hB; exact heap_alloc_new w _
theorem Box.lt (h : Box w B cs t) : B < w.heap.size := (Array.getElem?_eq_some_iff.1 h).1
theorem Box.later (h : Box w B cs t) (hb : Below w.heap.size w w') : Box w' B cs t := by
  have := h.lt
  unfold Box at *
  rw [hb.block B this, h]
theorem Box.up (h : Box w B cs t) (o : Obj) : Box (w.alloc o) B cs t := h.later ((Below.refl _ _).alloc (Nat.le_refl _) o)
theorem Box.drew (h : Box w B cs t) : Box w.drew B cs t := h
theorem Box.cell (h : Box w B cs t) {i : Nat} {v : Value} (hv : cs[i]? = some v) : w.cell? ⟨B, i, none⟩ = some v := by
  unfold Box at h
  simp [World.cell?, h, hv]
theorem Box.frozen (h : Box w B cs t) (j : Nat) : w.frozen? ⟨B, j, none⟩ = false := by
  unfold Box at h; simp [World.frozen?, h]
theorem Box.set (h : Box w B cs t) (i : Nat) (v : Value) : Box (w.setCell ⟨B, i, none⟩ v) B (cs.setIfInBounds i v) t := by
  unfold Box at *
  rw [heap_setCell_same w B i _ _ _ h]
theorem Box.other (h : Box w B cs t) {b : Nat} (hne : B ≠ b) (i : Nat) (z : Value) : Box (w.setCell ⟨b, i, none⟩ z) B cs t := by
  unfold Box at *
  rw [Below.heap_setCell _ _ _ _ hne, h]
theorem Box.grown {row : Option Nat} (h : Box w B cs t) (hg : w.grownBy w' row) (hne : some B ≠ row) : Box w' B cs t := by
  have := h.lt
  unfold Box at *
  rw [hg.block B this hne, h]
theorem Box.cells7 (h : Box w B #[x0, x1, x2, x3, x4, x5, x6] t) : w.cell? ⟨B, 0, none⟩ = some x0 ∧ w.cell? ⟨B, 1, none⟩ = some x1 ∧ w.cell? ⟨B, 2, none⟩ = some x2 ∧ w.cell? ⟨B, 3, none⟩ = some x3 ∧ w.cell? ⟨B, 4, none⟩ = some x4 ∧ w.cell? ⟨B, 5, none⟩ = some x5 ∧ w.cell? ⟨B, 6, none⟩ = some x6 :=
  ⟨h.cell rfl, h.cell rfl, h.cell rfl, h.cell rfl, h.cell rfl, h.cell rfl, h.cell rfl⟩
theorem Box.cells6 (h : Box w B #[x0, x1, x2, x3, x4, x5] t) : w.cell? ⟨B, 0, none⟩ = some x0 ∧ w.cell? ⟨B, 1, none⟩ = some x1 ∧ w.cell? ⟨B, 2, none⟩ = some x2 ∧ w.cell? ⟨B, 3, none⟩ = some x3 ∧ w.cell? ⟨B, 4, none⟩ = some x4 ∧ w.cell? ⟨B, 5, none⟩ = some x5 :=
  ⟨h.cell rfl, h.cell rfl, h.cell rfl, h.cell rfl, h.cell rfl, h.cell rfl⟩
theorem Box.cells2 (h : Box w B #[x0, x1] t) : w.cell? ⟨B, 0, none⟩ = some x0 ∧ w.cell? ⟨B, 1, none⟩ = some x1 := ⟨h.cell rfl, h.cell rfl⟩
end


theorem fin {w W w3 : World} (h3 : Below W.heap.size W w3) (h : Below w.heap.size w W) : Below w.heap.size w w3 := h.trans (h3.mono h.size)

set_option maxRecDepth 100000 in
set_option maxHeartbeats 2000000 in
theorem rSame_any (a b : Option Addr) (n c d : Nat) (l : List ByteArray) (w : World) (hl : l.length = n) (hA : Strs w a l) (hB : Strs w b l) :
    Calls Try.prog 45 #[.slice a n c, .slice b n d] w fun e w' => e = .returned (.bool true) ∧ Below w.heap.size w w' := by
  subst hl
  have hn := hA.1
  go_enter Try.func45, Try.ntmps45
  go_wp2
  go_loopw [5] (fun i wr => ∃ k : Nat, k ≤ l.length ∧ i = .int .i64 k ∧ Below w.heap.size w wr) (fun i _ => l.length - (intOf i).toNat)
  case atStart => exact ⟨0, Nat.zero_le _, rfl, Below.refl _ _⟩
  case round =>
    obtain ⟨k, hk, rfl, hbw⟩ := hrel
    by_cases hlt : k < l.length
    · obtain ⟨x, rfl, hx⟩ := (hA.later hbw).2 k hlt
      obtain ⟨y, rfl, hy⟩ := (hB.later hbw).2 k hlt
      obtain ⟨s, hs⟩ : ∃ s, l.getD k ByteArray.empty = s := ⟨_, rfl⟩
      rw [hs] at hx hy
      clear hA hB hs
      have i1 : (k : Int) < l.length := by omega
      go_wp2
      go_quiet (fail)
      go_wp2
      go_roundw
      case rel => exact ⟨k + 1, hlt, by go_num, below_drewN hbw _⟩
      case measure => simp [intOf]; omega
    · clear hA hB
      go_wp2
      go_ret
      exact ⟨rfl, hbw⟩

set_option maxRecDepth 100000 in
set_option maxHeartbeats 4000000 in
theorem rPods_same (a b : Option Addr) (n c d : Nat) (l r : List PodT) (w : World) (hl : l.length = n) (hd : l.map PodT.data = r.map PodT.data) (hA : Pods w a l) (hB : Pods w b r) :
    Calls Try.prog 29 #[.slice a n c, .slice b n d] w fun e w' => e = .returned (.bool true) ∧ Below w.heap.size w w' := by
  have hn := hA.1
  have hr : r.length = n := by rw [← hl]; have := congrArg List.length hd; simpa using this.symm
  rw [hl] at hn
  have he := eqVec
  go_enter Try.func29, Try.ntmps29
  go_wp2
  go_loopw [5] (fun i wr => ∃ k : Nat, k ≤ n ∧ i = .int .i64 k ∧ Below w.heap.size w wr) (fun i _ => n - (intOf i).toNat)
  case atStart => exact ⟨0, Nat.zero_le _, rfl, Below.refl _ _⟩
  case round =>
    obtain ⟨k, hk, rfl, hbw⟩ := hrel
    by_cases hlt : k < n
    · obtain ⟨B, o, rfl, hat, hok⟩ := (hA.later hbw).2 k _ (List.getElem?_eq_getElem (by omega))
      obtain ⟨B2, o2, rfl, hat2, hok2⟩ := (hB.later hbw).2 k _ (List.getElem?_eq_getElem (by omega))
      have hdk : (l[k]'(by omega)).data = (r[k]'(by omega)).data := by
        have h1 := congrArg (fun x => x[k]?) hd
        simp only [List.getElem?_map, List.getElem?_eq_getElem (show k < l.length by omega), List.getElem?_eq_getElem (show k < r.length by omega), Option.map_some] at h1
        exact Option.some.inj h1
      obtain ⟨p, hp⟩ : ∃ p, l[k]'(by omega) = p := ⟨_, rfl⟩
      obtain ⟨q, hq⟩ : ∃ q, r[k]'(by omega) = q := ⟨_, rfl⟩
      rw [hp] at hat hok hdk
      rw [hq] at hat2 hok2 hdk
      obtain ⟨nm, sh, cpu, mem, pa, pc, ps, ba, bc, bs, al⟩ := p
      obtain ⟨nm2, sh2, cpu2, mem2, pa2, pc2, ps2, ba2, bc2, bs2, al2⟩ := q
      simp only [PodT.data, Prod.mk.injEq] at hdk
      obtain ⟨rfl, rfl, rfl, rfl, rfl, rfl, rfl⟩ := hdk
      obtain ⟨pn, hpn⟩ : ∃ x, ps.length = x := ⟨_, rfl⟩
      obtain ⟨bn, hbn⟩ : ∃ x, bs.length = x := ⟨_, rfl⟩
      obtain ⟨g1, g2⟩ := hok
      obtain ⟨g3, g4⟩ := hok2
      obtain ⟨d0, d1, d2, d3, d4, d5, d6⟩ := hat
      obtain ⟨d0', d1', d2', d3', d4', d5', d6'⟩ := hat2
      simp only [hpn, hbn] at d0 d1 d2 d3 d4 d5 d6 d0' d1' d2' d3' d4' d5' d6' g1 g2 g3 g4
      have i1 : (k : Int) < n := by omega
      have ks1 := fun W (hW : Below wr.heap.size wr W) => rSame_any pa pa2 pn pc pc2 ps W hpn (g1.later hW) (g3.later hW)
      have ks2 := fun W (hW : Below wr.heap.size wr W) => rSame_any ba ba2 bn bc bc2 bs W hbn (g2.later hW) (g4.later hW)
      clear hA hB hp hq g1 g2 g3 g4 hpn hbn hd hr hl
      have l1 : B < wr.heap.size := block_lt d0
      have l2 : B2 < wr.heap.size := block_lt d0'
      have m1 : ∀ j, B < wr.heap.size + j := fun j => by omega
      have m2 : ∀ j, B2 < wr.heap.size + j := fun j => by omega
      go_upto_region 6 with fail
      go_cut [6, 7] (fun s6 s7 wx => ∃ X Y, s6 = .pointer (some ⟨X, 0, none⟩) ∧ s7 = .pointer (some ⟨Y, 0, none⟩) ∧ Box wx X #[.string nm, .int .i64 sh, .int .i64 cpu, .int .i64 mem, .slice pa pn pc, .slice ba bn bc, .bool al] 26 ∧ Box wx Y #[.string nm, .int .i64 sh, .int .i64 cpu, .int .i64 mem, .slice pa2 pn pc2, .slice ba2 bn bc2, .bool al] 26 ∧ Below wr.heap.size wr wx)
      case first =>
        go_region
        all_goals
          go_wp2
          go_meet
          case rel =>
            refine ⟨_, _, rfl, rfl, Box.drew ?_, Box.drew ?_, Below.drew (up (up (Below.refl _ _) _) _)⟩
            all_goals first | exact (Box.new wr _ _ rfl).up _ | (refine Box.new _ _ _ ?_; simp; done)
      case rest =>
        obtain ⟨X, Y, rfl, rfl, hX, hY, hwc⟩ := hcut
        obtain ⟨x0, x1, x2, x3, x4, x5, x6⟩ := hX.cells7
        obtain ⟨y0, y1, y2, y3, y4, y5, y6⟩ := hY.cells7
        clear d0 d1 d2 d3 d4 d5 d6 d0' d1' d2' d3' d4' d5' d6'
        go_wp2_with (first
          | (go_at_call_of 45 (Value.slice pa pn pc); refine (ks1 _ hwc).mono ?_; rintro e w8 ⟨rfl, hb8⟩
             have hwd := hwc.trans (hb8.mono hwc.size)
             clear x0 x1 x2 x3 x4 x5 x6 y0 y1 y2 y3 y4 y5 y6
             obtain ⟨x0, x1, x2, x3, x4, x5, x6⟩ := (hX.later hb8).cells7
             obtain ⟨y0, y1, y2, y3, y4, y5, y6⟩ := (hY.later hb8).cells7)
          | (go_at_call_of 45 (Value.slice ba bn bc); refine (ks2 _ hwd).mono ?_; rintro e w9 ⟨rfl, hb9⟩))
        go_roundw
        case rel => exact ⟨k + 1, hlt, by go_num, fin (hwd.trans (hb9.mono hwd.size)) hbw⟩
        case measure => simp [intOf]; omega
    · clear hA hB
      go_wp2
      go_ret
      exact ⟨rfl, hbw⟩

end Go.Proofs.Ytgcicillmljglaa
