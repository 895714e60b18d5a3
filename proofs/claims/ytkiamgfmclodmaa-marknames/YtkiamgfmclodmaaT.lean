/- The contracts that hold a cell over a call; the text that is made by numbers. -/
import Derived.Test.YtkiamgfmclodmaaR
namespace Go.Proofs.Ytkiamgfmclodmaa
open Go.RowKit

theorem keepS {w0 W w1 : World} {a : Addr} {v : Value} (hb : Below W.heap.size W w1) (hc : W.cell? a = some v) (h0 : Below w0.heap.size w0 W) : w1.cell? a = some v ∧ Below w0.heap.size w0 w1 :=
  ⟨cell_below hb hc (block_lt hc), h0.trans (hb.mono h0.size)⟩

theorem name_held (s : ByteArray) (b : Bool) (w0 W : World) (a : Addr) (v : Value) (h : isName s = b) (hc : W.cell? a = some v) (h0 : Below w0.heap.size w0 W) :
    Calls Try.prog 12 #[.string s] W fun e w' => e = .returned (.bool b) ∧ w'.cell? a = some v ∧ Below w0.heap.size w0 w' := by
  subst h
  exact (name_any s W).mono fun e w' h => ⟨h.1, keepS h.2 hc h0⟩

theorem rName_held (s : ByteArray) (b : Bool) (w0 W : World) (a : Addr) (v : Value) (hs : s.size ≤ maxLen) (h : isName s = b) (hc : W.cell? a = some v) (h0 : Below w0.heap.size w0 W) :
    Calls Try.prog 13 #[.string s] W fun e w' => e = .returned (.bool b) ∧ w'.cell? a = some v ∧ Below w0.heap.size w0 w' := by
  subst h
  exact (rName_any s W hs).mono fun e w' h => ⟨h.1, keepS h.2 hc h0⟩

theorem runes_held (s : ByteArray) (n : Int) (w0 W : World) (a : Addr) (v : Value) (hs : s.size ≤ maxLen) (h : (count s : Int) = n) (hc : W.cell? a = some v) (h0 : Below w0.heap.size w0 W) :
    Calls Try.prog 14 #[.string s] W fun e w' => e = .returned (.int .i64 n) ∧ w'.cell? a = some v ∧ Below w0.heap.size w0 w' := by
  subst h
  exact (runes_any s W hs).mono fun e w' h => ⟨h.1, keepS h.2 hc h0⟩

theorem rRunes_any (s : ByteArray) (w : World) (hs : s.size ≤ maxLen) :
    Calls Try.prog 15 #[.string s] w fun e w' => e = .returned (.int .i64 (count s)) ∧ Below w.heap.size w w' := by
  unfold maxLen at hs
  go_enter Try.func15, Try.ntmps15
  go_wp2
  go_loopw [3] (fun v wr => ∃ (pos fuel k : Nat), v = .int .i64 k ∧ wr.heap[w.heap.size]? = some (.stringIter s pos) ∧ Below w.heap.size w wr ∧ Hid (rc s fuel pos + k = count s) ∧ s.size ≤ pos + fuel ∧ k ≤ pos) (fun _ wr => s.size - wr.iterPos w.heap.size)
  case atStart => exact ⟨0, s.size, 0, rfl, World.iter_heap w s 0, (Below.refl _ _).alloc (Nat.le_refl _) _, rfl, by omega, by omega⟩
  case round =>
    obtain ⟨pos, fuel, k, rfl, hit, hbw, HS, hb, hlen⟩ := hrel
    have hpos0 := iterPos_of hit
    by_cases hp : pos < s.size
    · have hnx : ∀ ty, (Instr.next (.pointer (some ⟨w.heap.size, 0, none⟩)) true ty).run Try.prog wr = _ := fun ty => Lib.run_next_any_at wr w.heap.size s pos ty hit hp
      have hwd := width_pos s pos hp
      obtain ⟨fuel, rfl⟩ : ∃ f', fuel = f' + 1 := ⟨fuel - 1, by omega⟩
      have hit2 := Lib.iterAt_heap wr w.heap.size s pos (pos + (Utf8.decode s pos).2) hit
      have hbw2 := Lib.below_iterAt hbw (k := w.heap.size) (Nat.le_refl _) s (pos + (Utf8.decode s pos).2)
      obtain ⟨W1, hW1⟩ : ∃ W1, W1 = wr.iterAt w.heap.size s (pos + (Utf8.decode s pos).2) := ⟨_, rfl⟩
      rw [← hW1] at hnx hit2 hbw2
      clear hW1 hit hbw
      go_wp2
      go_roundw
      case rel => exact ⟨_, fuel, k + 1, by go_num, hit2, hbw2, (by show _ = _; rw [← HS.out]; simp [rc, hp]; omega), by omega, by omega⟩
      case measure => rw [iterPos_of hit2, hpos0]; omega
    · have hnx : ∀ ty, (Instr.next (.pointer (some ⟨w.heap.size, 0, none⟩)) true ty).run Try.prog wr = _ := fun ty => Lib.run_next_end_at wr w.heap.size s pos ty hit hp
      have e : count s = k := by rw [← HS.out]; cases fuel <;> simp [rc, hp]
      go_wp2
      go_ret
      exact ⟨by rw [e]; first | done | rfl, hbw⟩

theorem rRunes_held (s : ByteArray) (n : Int) (w0 W : World) (a : Addr) (v : Value) (hs : s.size ≤ maxLen) (h : (count s : Int) = n) (hc : W.cell? a = some v) (h0 : Below w0.heap.size w0 W) :
    Calls Try.prog 15 #[.string s] W fun e w' => e = .returned (.int .i64 n) ∧ w'.cell? a = some v ∧ Below w0.heap.size w0 w' := by
  subst h
  exact (rRunes_any s W hs).mono fun e w' h => ⟨h.1, keepS h.2 hc h0⟩

theorem sixteen (k : Int) (h0 : 0 ≤ k) (h : k < 16) : k = 0 ∨ k = 1 ∨ k = 2 ∨ k = 3 ∨ k = 4 ∨ k = 5 ∨ k = 6 ∨ k = 7 ∨ k = 8 ∨ k = 9 ∨ k = 10 ∨ k = 11 ∨ k = 12 ∨ k = 13 ∨ k = 14 ∨ k = 15 := by omega

theorem app_le (s p : ByteArray) (k : Nat) (h : s.size ≤ 2 * k) (hp : p.size ≤ 2) : (s ++ p).size ≤ 2 * (k + 1) := by rw [ByteArray.size_append]; omega

set_option maxRecDepth 100000 in
set_option maxHeartbeats 4000000 in
theorem text_on (a : Option Addr) (len cap : Nat) (zs : List Int) (w0 W : World) (hrow : HasRow w0 a len zs) (hb : Below w0.heap.size w0 W) :
    Calls Try.prog 10 #[.slice a len cap] W fun e w' => ∃ s, e = .returned (.string s) ∧ s.size ≤ 24 ∧ Below w0.heap.size w0 w' := by
  have l0 : len ≤ 9223372036854775807 := hrow.1
  go_enter Try.func10, Try.ntmps10
  go_wp2
  go_loopw [3, 4] (fun v i wr => ∃ (k : Nat) (s : ByteArray), k ≤ 12 ∧ i = .int .i64 k ∧ v = .string s ∧ s.size ≤ 2 * k ∧ Below w0.heap.size w0 wr) (fun _ i _ => 12 - (intOf i).toNat)
  case atStart => exact ⟨0, _, Nat.zero_le _, rfl, rfl, by decide, hb⟩
  case round =>
    clear hb
    obtain ⟨k, s, hk, rfl, rfl, hsz, hbw⟩ := hrel
    by_cases hlt : k < len ∧ k < 12
    · obtain ⟨hlen, h12⟩ := hlt
      obtain ⟨x, z, rfl, hcz⟩ := hrow.at hbw (Nat.le_refl _) k hlen
      have hcz2 := fun o => cell_alloc hcz o
      clear hrow
      obtain ⟨q, hq⟩ : ∃ q, z % 16 = q := ⟨_, rfl⟩
      rcases sixteen q (by omega) (by omega) with rfl | rfl | rfl | rfl | rfl | rfl | rfl | rfl | rfl | rfl | rfl | rfl | rfl | rfl | rfl | rfl
      all_goals
        go_wp2_with (go_at_call 11; refine (within_any _ _ _ (by decide) (by decide) (by assumption) _).mono ?_; rintro e w2 ⟨rfl, rfl⟩)
        go_roundw
        case rel => exact ⟨k + 1, _, h12, by go_num, rfl, app_le _ _ _ hsz (by decide), hbw.alloc hbw.size _⟩
        case measure => simp [intOf]; omega
    · rcases (by omega : len ≤ k ∨ (k < len ∧ 12 ≤ k)) with hx | ⟨hx, hx'⟩
      all_goals
        clear hlt hrow
        go_wp2
        go_ret
        exact ⟨_, rfl, by omega, hbw⟩

end Go.Proofs.Ytkiamgfmclodmaa
