/- The contract of the chapter's own Ints: are two rows of numbers the same? -/
import Derived.Test.YtgcicillmljglaaX
import Derived.Test.YtgcicillmljglaaK
namespace Go.Proofs.Ytgcicillmljglaa
open Go.RowKit
attribute [local go_sem ↓] Go.wp_at_zero Go.wp_at_succ

/-- A row of numbers, wherever it lies. -/
def IntsAt (w : World) (a : Option Addr) (zs : List Int) : Prop := zs.length ≤ 1000 ∧ ∀ i z, zs[i]? = some z → ∃ B o, a = some ⟨B, o, none⟩ ∧ w.cell? ⟨B, o + i, none⟩ = some (.int .i64 z)

theorem IntsAt.later {w w1 : World} {a : Option Addr} {zs : List Int} (h : IntsAt w a zs) (hb : Below w.heap.size w w1) : IntsAt w1 a zs :=
  ⟨h.1, fun i z hz => by
    obtain ⟨B, o, hx, hc⟩ := h.2 i z hz
    exact ⟨B, o, hx, cell_below hb hc (block_lt hc)⟩⟩

theorem Ints.at {w : World} {g : Nat} {zs : List Int} (h : Ints w g zs) (hl : zs.length ≤ 1000) : IntsAt w (some ⟨g, 0, none⟩) zs :=
  ⟨hl, fun i z hz => ⟨g, 0, rfl, by rw [Nat.zero_add]; exact h i z hz⟩⟩

set_option maxRecDepth 100000 in
set_option maxHeartbeats 2000000 in
theorem rInts_same (a b : Option Addr) (c1 c2 n : Nat) (zs : List Int) (w : World) (hl : zs.length = n) (h1 : IntsAt w a zs) (h2 : IntsAt w b zs) :
    Calls Try.prog 26 #[.slice a n c1, .slice b n c2] w fun e w' => e = .returned (.bool true) ∧ Below w.heap.size w w' := by
  have hn := h1.1
  rw [hl] at hn
  go_enter Try.func26, Try.ntmps26
  go_wp2
  go_loopw [5] (fun i wr => ∃ k : Nat, k ≤ n ∧ i = .int .i64 k ∧ Below w.heap.size w wr) (fun i _ => n - (intOf i).toNat)
  case atStart => exact ⟨0, Nat.zero_le _, rfl, Below.refl _ _⟩
  case round =>
    obtain ⟨k, hk, rfl, hbw⟩ := hrel
    by_cases hlt : k < n
    · obtain ⟨B, o, rfl, x1⟩ := (h1.later hbw).2 k _ (List.getElem?_eq_getElem (by omega))
      obtain ⟨B', o', rfl, x2⟩ := (h2.later hbw).2 k _ (List.getElem?_eq_getElem (by omega))
      obtain ⟨z, hz⟩ : ∃ z, zs[k] = z := ⟨_, rfl⟩
      rw [hz] at x1 x2
      have i1 : (0 : Int) ≤ (k : Int) := by omega
      have i2 : (k : Int) < n := by omega
      clear h1 h2
      go_wp2
      go_quiet (fail)
      go_wp2
      go_roundw
      case rel => exact ⟨k + 1, hlt, by go_num, below_drewN hbw _⟩
      case measure => simp [intOf]; omega
    · clear h1 h2
      go_wp2
      go_ret
      exact ⟨rfl, hbw⟩

end Go.Proofs.Ytgcicillmljglaa
