/- The set of marks of a number, as the statements make it. -/
import Derived.Test.YtcmgpbdciifdmaaLA
import Derived.Test.YtcmgpbdciifdmaaBX
import Derived.Test.YtcmgpbdciifdmaaN
import Derived.ArgAppend
import Derived.OneCell
import Derived.Deep.RegionHeld3
import Derived.Deep.DrawnRows
import Derived.StillTactics
import Derived.Laws.Pointers
namespace Go.Proofs.Ytcmgpbdciifdmaa
open Go.RowKit Go.Maps
attribute [local go_sem ↓] Go.wp_at_zero Go.wp_at_succ

theorem infoS9 : (Try.prog.info? 9).map (fun i => (i.zero, i.size, i.bytes)) = some (some (.string ⟨#[]⟩), 1, 16) := by kernel_rfl

theorem strings_oneCell (ts : List ByteArray) : ∀ u ∈ ts.map Value.string, u.oneCell' = true := by
  intro u hu
  obtain ⟨s, _, rfl⟩ := List.mem_map.1 hu
  rfl

theorem strs_news {w : World} {x : Addr} {ts : List ByteArray} (h : Strs w (some x) ts) : ∀ j u, (ts.map Value.string)[j]? = some u → w.cell? (x.add j) = some u := by
  intro j u hu
  have hj : j < ts.length := by
    rcases Nat.lt_or_ge j ts.length with h' | h'
    · exact h'
    · rw [List.getElem?_eq_none (by simpa using h')] at hu; cases hu
  obtain ⟨x', hx, hc⟩ := h.2 j hj
  cases hx
  rw [hc]
  simp [List.getElem?_eq_getElem hj] at hu ⊢
  exact hu

theorem strs_nil (w : World) : Strs w none [] := ⟨by simp, fun i hi => by simp at hi⟩
/-- A row of texts that is new, from block B on. -/
def NewStrs (B : Nat) (w : World) (a : Option Addr) (c : Nat) (ss : List ByteArray) : Prop :=
  Strs w a ss ∧ (∀ x, a = some x → B ≤ x.block ∧ x.block < w.heap.size) ∧ (a = none → c = 0) ∧ ss.length ≤ c ∧ SP a

theorem newStrs_of_own {w : World} {base : Nat} {v : Value} {n : Nat} {ss : List ByteArray} (h : w.ownsRow base 9 1 v n (ss.map Value.string)) (hl : ss.length ≤ 1000) : ∃ a cap, v = .slice a ss.length cap ∧ NewStrs base w a cap ss := by
  have hn : ss.length = n := by have := h.1; simpa using this
  rcases h.2 with ⟨rfl, h0⟩ | ⟨g, cap, cur, rfl, hb, hh, hncap, hrest⟩
  · refine ⟨none, 0, by rw [hn, h0], ⟨hl, fun i hi => by omega⟩, (fun x hx => by cases hx), fun _ => rfl, by omega, SP.none⟩
  · refine ⟨some ⟨g, 0, none⟩, cap, by rw [hn], ⟨hl, fun i hi => ⟨_, rfl, ?_⟩⟩, (fun x hx => by cases hx; exact ⟨hb, (Array.getElem?_eq_some_iff.1 hh).1⟩), (fun h => by cases h), by omega, SP.some _ _⟩
    refine h.cells (g := g) rfl i _ ?_
    simp [List.getElem?_eq_getElem hi]

theorem strs_grown {w w' : World} {a : Option Addr} {ss : List ByteArray} {row : Option Nat} (h : Strs w a ss) (hg : w.grownBy w' row) (hne : ∀ x, a = some x → some x.block ≠ row) : Strs w' a ss :=
  ⟨h.1, fun i hi => by
    obtain ⟨x, hx, hc⟩ := h.2 i hi
    refine ⟨x, hx, hg.cell hc ?_⟩
    have : (x.add i).block = x.block := by unfold Addr.add; split <;> rfl
    rw [this]
    exact hne x hx⟩

theorem NewStrs.grown {B : Nat} {w w' : World} {a : Option Addr} {c : Nat} {ss : List ByteArray} {row : Option Nat} (h : NewStrs B w a c ss) (hg : w.grownBy w' row) (hne : ∀ x, a = some x → some x.block ≠ row) : NewStrs B w' a c ss :=
  ⟨strs_grown h.1 hg hne, fun x hx => ⟨(h.2.1 x hx).1, Nat.lt_of_lt_of_le (h.2.1 x hx).2 hg.size⟩, h.2.2⟩


theorem NewStrs.later {B : Nat} {w w' : World} {a : Option Addr} {c : Nat} {ss : List ByteArray} (h : NewStrs B w a c ss) (hb : Below w.heap.size w w') : NewStrs B w' a c ss :=
  h.grown (below_grown hb none) (fun x _ e => by cases e)

theorem NewStrs.low {B B' : Nat} {w : World} {a : Option Addr} {c : Nat} {ss : List ByteArray} (h : NewStrs B w a c ss) (hB : B' ≤ B) : NewStrs B' w a c ss :=
  ⟨h.1, fun x hx => ⟨Nat.le_trans hB (h.2.1 x hx).1, (h.2.1 x hx).2⟩, h.2.2⟩

/-- The four marks. -/
def four : List ByteArray := [⟨#[98, 105, 103]⟩, ⟨#[115, 115, 100]⟩, ⟨#[119, 101, 115, 116]⟩, ⟨#[206, 179]⟩]
/-- Is this bit of the number set? -/
def bit (n : Int) (k : Nat) : Bool := decide (n / 2 ^ k % 2 = 1)
/-- The marks of a number, of the first k. -/
def marksTo (n : Int) : Nat → List ByteArray
  | 0 => []
  | k + 1 => marksTo n k ++ if bit n k then [four.getD k ByteArray.empty] else []

theorem marksTo_le (n : Int) : ∀ k, (marksTo n k).length ≤ k
  | 0 => by simp [marksTo]
  | k + 1 => by
    have := marksTo_le n k
    rw [marksTo]
    split <;> simp <;> omega

set_option maxRecDepth 100000 in
set_option maxHeartbeats 4000000 in
theorem lSet_any (n : Int) (w : World) :
    Calls Try.prog 30 #[.int .i64 n] w fun e w' => ∃ a cap, e = .returned (.slice a (marksTo n 4).length cap) ∧ NewStrs w.heap.size w' a cap (marksTo n 4) ∧ Below w.heap.size w w' := by
  obtain ⟨i0, hi, hz0, hz1, hz2⟩ := info_parts infoS9
  go_enter Try.func30, Try.ntmps30
  go_wp2
  go_loopw [4, 5] (fun v i wr => ∃ k : Nat, k ≤ 4 ∧ i = .int .i64 k ∧ wr.ownsRow (w.heap.size + 1) 9 1 v (marksTo n k).length ((marksTo n k).map Value.string) ∧ Below w.heap.size w wr ∧ w.heap.size + 1 ≤ wr.heap.size ∧
      (∀ j, j < 4 → wr.cell? ⟨w.heap.size, j, none⟩ = some (.string (four.getD j ByteArray.empty))))
    (fun _ i _ => 4 - (intOf i).toNat)
  case atStart => exact ⟨0, Nat.zero_le _, rfl, World.ownsRow_nil _ _ _ _, (Below.refl _ _).alloc (Nat.le_refl _) _, by simp, fun j hj => by
    rcases (by omega : j = 0 ∨ j = 1 ∨ j = 2 ∨ j = 3) with rfl | rfl | rfl | rfl <;> simp [four]⟩
  case round =>
    obtain ⟨k, hk, rfl, hrow, hbw, hws, hc⟩ := hrel
    by_cases hlt : k < 4
    · obtain ⟨q, hq⟩ : ∃ q, n / 2 ^ k % 2 = q := ⟨_, rfl⟩
      have hck := hc k hlt
      obtain ⟨s, hs⟩ : ∃ s, four.getD k ByteArray.empty = s := ⟨_, rfl⟩
      rw [hs] at hck
      have hle := marksTo_le n k
      obtain ⟨ms, hms⟩ : ∃ ms, marksTo n k = ms := ⟨_, rfl⟩
      have hstep : Hid (marksTo n (k + 1) = ms ++ if q = 1 then [s] else []) := by
        show _ = _
        rw [marksTo, bit, hq, hms, hs]
        simp
      rw [hms] at hrow hle
      clear hms hs
      have hne : some w.heap.size ≠ u4.ownBlock := fun e => by
        have := (hrow.lt _ e.symm).1
        omega
      have HC : Hid (∀ j, j < 4 → wr.cell? ⟨w.heap.size, j, none⟩ = some (.string (four.getD j ByteArray.empty))) := hc
      clear hc
      rcases (by omega : q = 0 ∨ q = 1) with rfl | rfl
      · rcases (by omega : k = 0 ∨ k = 1 ∨ k = 2 ∨ k = 3) with rfl | rfl | rfl | rfl
        all_goals
          simp only [Int.pow_zero, Int.ediv_one, Int.reducePow] at hq
          go_wp2_with (go_at_call 40; refine (within2_any _ _ _ (by decide) (by decide) (by assumption) _).mono ?_; rintro e w2 ⟨rfl, rfl⟩)
          go_roundw
          case rel => exact ⟨_, hlt, rfl, by rw [hstep.out]; simpa using hrow, hbw, hws, HC.out⟩
          case measure => simp [intOf]
      · rcases (by omega : k = 0 ∨ k = 1 ∨ k = 2 ∨ k = 3) with rfl | rfl | rfl | rfl
        all_goals
          simp only [Int.pow_zero, Int.ediv_one, Int.reducePow] at hq
          go_wp2_with (first
            | (go_at_call 40; refine (within2_any _ _ _ (by decide) (by decide) (by assumption) _).mono ?_; rintro e w2 ⟨rfl, rfl⟩)
            | (at_builtin; refine wpList_append_own _ rfl _ _ 34 rfl (w.heap.size + 1) 9 i0 (.string ⟨#[]⟩) 1 16 Try.underlying34 hi hz0 hz1 hz2 rfl (by decide) _ _ _ rfl (hrow.alloc _) ⟨_, 0, none⟩ 1 1 [.string s] rfl rfl (cell_one_new _ _ _) (fun u hu => by simp at hu; subst hu; rfl) (by unfold maxLen; omega) (by omega) (by simp; omega) ?_; intro v' w1 hown' hgrow hnil)
            | go_in)
          go_roundw
          case rel =>
            refine ⟨_, hlt, rfl, by rw [hstep.out]; simpa using hown', (hbw.alloc hbw.size _).grown hgrow (by simp; omega) (fun j hj => by have := (hrow.lt j hj).1; omega), by have := hgrow.size; simp at this; omega, fun j hj => ?_⟩
            exact hgrow.cell (cell_alloc (HC.out j hj) _) hne
          case measure => simp [intOf]
    · have e4 : k = 4 := by omega
      subst e4
      obtain ⟨a, cap, rfl, hS⟩ := newStrs_of_own hrow (by have := marksTo_le n 4; omega)
      clear hrow
      go_wp2
      go_ret
      exact ⟨_, _, rfl, hS.low (by omega), hbw⟩

theorem marks_four (n : Int) : ∀ k, k ≤ 4 → ∀ s ∈ marksTo n k, s ∈ four
  | 0, _, s, hs => by simp [marksTo] at hs
  | k + 1, hk, s, hs => by
    rw [marksTo] at hs
    rcases List.mem_append.1 hs with h | h
    · exact marks_four n k (by omega) s h
    · split at h
      · simp only [List.mem_singleton] at h
        subst h
        rcases (by omega : k = 0 ∨ k = 1 ∨ k = 2 ∨ k = 3) with rfl | rfl | rfl | rfl <;> simp [four]
      · simp at h

end Go.Proofs.Ytcmgpbdciifdmaa
