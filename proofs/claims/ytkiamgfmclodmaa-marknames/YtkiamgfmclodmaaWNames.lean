/- The walk of MarkNames: it returns true. -/
import Derived.Test.YtkiamgfmclodmaaT
import Derived.Deep.RegionHeld3
import Derived.Deep.DrawnRows
import Derived.StillTactics
import Derived.Laws.Pointers
namespace Go.Proofs.Ytkiamgfmclodmaa
open Go.RowKit
attribute [local go_sem ↓] Go.wp_at_zero Go.wp_at_succ

theorem alloc_below {w0 W : World} (h : Below w0.heap.size w0 W) (o : Obj) : Below w0.heap.size w0 (W.alloc o) := h.alloc h.size o

/-- A row of eight texts in a block of its own. -/
def Eight (w : World) (L : Nat) (T : Nat → ByteArray) : Prop := ∀ j, j < 8 → w.cell? ⟨L, j, none⟩ = some (.string (T j)) ∧ (T j).size ≤ 200

theorem Eight.later {w w1 : World} {L : Nat} {T : Nat → ByteArray} (h : Eight w L T) (hb : Below w.heap.size w w1) : Eight w1 L T :=
  fun j hj => ⟨cell_below hb (h j hj).1 (block_lt (h j hj).1), (h j hj).2⟩

theorem held {F : Nat} {args : Array Value} {v : Value} {w0 W : World} {L : Nat} {T : Nat → ByteArray} {a : Addr} {u : Value} (h : Calls Try.prog F args W fun e w' => e = .returned v ∧ Below W.heap.size W w')
    (hc : W.cell? a = some u) (hE : Eight W L T) (h0 : Below w0.heap.size w0 W) : Calls Try.prog F args W fun e w' => e = .returned v ∧ w'.cell? a = some u ∧ Eight w' L T ∧ Below w0.heap.size w0 w' :=
  h.mono fun _ _ h => ⟨h.1, cell_below h.2 hc (block_lt hc), hE.later h.2, h0.trans (h.2.mono h0.size)⟩

theorem ext_le (s : ByteArray) (n m : Nat) (h : s.size ≤ m) : (s.extract 0 n).size ≤ m := by
  rw [ByteArray.size_extract]; omega

theorem eight_new (w : World) (s0 s1 s2 s3 s4 s5 s6 s7 : ByteArray) (h0 : s0.size ≤ 200) (h1 : s1.size ≤ 200) (h2 : s2.size ≤ 200) (h3 : s3.size ≤ 200) (h4 : s4.size ≤ 200) (h5 : s5.size ≤ 200) (h6 : s6.size ≤ 200) (h7 : s7.size ≤ 200) :
    Eight (w.alloc (.cells #[.string s0, .string s1, .string s2, .string s3, .string s4, .string s5, .string s6, .string s7] 9)) w.heap.size (fun j => [s0, s1, s2, s3, s4, s5, s6, s7].getD j ByteArray.empty) := by
  intro j hj
  rcases (by omega : j = 0 ∨ j = 1 ∨ j = 2 ∨ j = 3 ∨ j = 4 ∨ j = 5 ∨ j = 6 ∨ j = 7) with rfl | rfl | rfl | rfl | rfl | rfl | rfl | rfl <;> simp [*]

set_option maxRecDepth 100000 in
set_option maxHeartbeats 8000000 in
theorem markNames_walk (a0 : Option Addr) (len0 cap0 : Nat) (z0 : List Int) (raw : ByteArray) (n : Int) (w : World) (w0 : IsRow .i64 w a0 len0 cap0 z0) (hraw : raw.size ≤ maxLen) (_w2 : (Lit.int .i64 n).wf = true) :
    Calls Try.prog 3 #[.slice a0 len0 cap0, .string raw, .int .i64 n] w fun e w' => e = .returned (.bool true) ∧ Below w.heap.size w w' := by
  replace w0 := w0.has
  obtain ⟨K, hK⟩ : ∃ K : Nat, n % 11 = (K : Int) := ⟨(n % 11).toNat, by omega⟩
  obtain ⟨M, hM⟩ : ∃ M : Nat, n % 21 = (M : Int) := ⟨(n % 21).toNat, by omega⟩
  have k0 : (0 : Int) ≤ (K : Int) := by omega
  have k1 : (K : Int) ≤ 10 := by omega
  have k2 : (0 : Int) ≤ 2 * (K : Int) := by omega
  have k3 : 2 * (K : Int) ≤ 20 := by omega
  have m0 : (0 : Int) ≤ (M : Int) := by omega
  have m1 : (M : Int) ≤ 20 := by omega
  have hb0 : Below w.heap.size w w := Below.refl _ _
  unfold maxLen at hraw
  by_cases h200 : (200 : Int) < raw.size
  · go_enter Try.func3, Try.ntmps3
    go_wp2_with (go_at_call 9; refine (known_on _ _ (by assumption)).mono ?_; rintro e w9 ⟨rfl, hb1⟩)
    go_ret
    exact ⟨rfl, hb1⟩
  · go_enter Try.func3, Try.ntmps3
    go_wp2_with (go_at_call 9; refine (known_on _ _ (by assumption)).mono ?_; rintro e w9 ⟨rfl, hb1⟩)
    have hb2 : Below w.heap.size w w9.drew := Below.drew hb1
    clear hb0 hb1
    have hw2 : IntKind.i64.wrap (2 * (K : Int)) = 2 * (K : Int) := by rw [IntKind.wrap_i64]; omega
    go_region_held3 (fun w' => Below w.heap.size w w') (first | assumption | (exact Below.drew (by assumption)) | (exact alloc_below (by assumption) _))
      (first
        | (go_at_call 10; refine (text_on _ _ _ _ _ _ w0 (by assumption)).mono ?_; rintro e w8 ⟨s8, rfl, hs8, hb8⟩; have q1 : ¬ (9223372036854775807 < 1 + s8.size) := (by omega); have q2 : 1 + s8.size ≤ 9223372036854775807 := (by omega))
        | (go_at_call 11; refine (within_any _ _ _ (by decide) (by decide) (by assumption) _).mono ?_; rintro e w2 ⟨rfl, rfl⟩))
    go_wp2
    go_loopw [8] (fun i wr => ∃ (k : Nat) (T : Nat → ByteArray), k ≤ 8 ∧ i = .int .i64 k ∧ Eight wr w2.heap.size T ∧ Below w.heap.size w wr) (fun i _ => 8 - (intOf i).toNat)
    case atStart =>
      refine ⟨0, _, by omega, rfl, eight_new _ _ _ _ _ _ _ _ _ ?_ ?_ ?_ ?_ ?_ ?_ ?_ ?_, by assumption⟩
      all_goals first | omega | decide | exact ext_le _ _ _ (by decide) | (rw [ByteArray.size_append]; show 1 + ByteArray.size _ ≤ 200; omega)
    case round =>
      obtain ⟨k, T, hk, rfl, hE, hbw⟩ := hrel
      clear w0 hK hM hraw
      by_cases hlt : k < 8
      · obtain ⟨hc, hs⟩ := hE k hlt
        have i0 : (0 : Int) ≤ (k : Int) := by omega
        have i1 : (k : Int) < 8 := by omega
        have hm : (T k).size ≤ maxLen := by unfold maxLen; omega
        obtain ⟨s, hsT⟩ : ∃ s, T k = s := ⟨_, rfl⟩
        rw [hsT] at hc hs hm
        obtain ⟨b, hb⟩ : ∃ b, isName s = b := ⟨_, rfl⟩
        obtain ⟨c, hcn⟩ : ∃ c : Nat, count s = c := ⟨_, rfl⟩
        have hc2 : wr.drew.cell? ⟨w2.heap.size, k, none⟩ = some (.string s) := hc
        have hE2 : Eight wr.drew w2.heap.size T := hE
        have hbw2 : Below w.heap.size w wr.drew := Below.drew hbw
        have n1 := fun W => name_any s W
        have n2 := fun W => rName_any s W hm
        have n3 := fun W => runes_any s W hm
        have n4 := fun W => rRunes_any s W hm
        rw [hb] at n1 n2
        rw [hcn] at n3 n4
        clear hsT hb hcn hc hE hbw
        go_wp2
        go_region_held3 (fun w' => w'.cell? ⟨w2.heap.size, k, none⟩ = some (.string s) ∧ Eight w' w2.heap.size T ∧ Below w.heap.size w w') (exact ⟨by assumption, by assumption, by assumption⟩)
          (first
            | (go_at_call 12; refine (held (n1 _) (by assumption) (by assumption) (by assumption)).mono ?_; rintro e w8 ⟨rfl, hc8, hE8, hb8⟩)
            | (go_at_call 13; refine (held (n2 _) (by assumption) (by assumption) (by assumption)).mono ?_; rintro e w8 ⟨rfl, hc8, hE8, hb8⟩)
            | (go_at_call 14; refine (held (n3 _) (by assumption) (by assumption) (by assumption)).mono ?_; rintro e w8 ⟨rfl, hc8, hE8, hb8⟩)
            | (go_at_call 15; refine (held (n4 _) (by assumption) (by assumption) (by assumption)).mono ?_; rintro e w8 ⟨rfl, hc8, hE8, hb8⟩))
        go_wp2
        go_roundw
        case rel => exact ⟨k + 1, T, hlt, by go_num, by assumption, by assumption⟩
        case measure => simp [intOf]; omega
      · have e8 : k = 8 := by omega
        subst e8
        go_wp2
        go_ret
        exact ⟨rfl, hbw⟩

end Go.Proofs.Ytkiamgfmclodmaa
