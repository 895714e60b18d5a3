/- More of a ledger of one node: one that is put anew; the statements' own room. -/
import Derived.Test.YtcmgpbdciifdmabKN
namespace Go.Proofs.Ytcmgpbdciifdmab
open Go.RowKit Go.Maps

theorem put_is (w : World) (L : Nat) (fp : Nat → Prop) (r : Rec) (G : List (Int × Grp)) (h : One w L fp r G) (s : ByteArray) (cpu mem : Int) (a1 : Option Addr) (n1 c1 : Nat) (al : Bool) (xs : List ByteArray) (hs : s.size ≤ maxLen) (h1 : Strs w a1 xs) (e1 : xs.length = n1) (s1 : SP a1) (f1 : ∀ x, a1 = some x → xs ≠ [] → ¬ fp x.block) :
    Calls Try.prog 15 #[.pointer (some ⟨L, 0, none⟩), .agg #[.string s, .int .i64 cpu, .int .i64 mem, .slice a1 n1 c1, .slice none 0 0, .bool al]] w fun e w' => e = .returned (.int .i64 (putE [(nB, r)] s cpu mem xs [])) ∧ PutPost w L fp [(nB, r)] G s cpu mem xs [] al (putE [(nB, r)] s cpu mem xs []) ((look [(nB, r)] s).getD zrec) w' := by
  obtain ⟨hF, hnm, p, q, hI⟩ := h
  exact put_any w L fp p q _ G hI s cpu mem a1 none n1 0 c1 0 al xs [] hs h1 ⟨by simp, by simp⟩ e1 rfl s1 SP.none f1 (fun x hx => by cases hx) (by simp; decide)

theorem put_same (w : World) (L : Nat) (fp : Nat → Prop) (r : Rec) (G : List (Int × Grp)) (h : One w L fp r G) (s : ByteArray) (cpu mem : Int) (a1 : Option Addr) (n1 c1 : Nat) (al : Bool) (xs : List ByteArray) (hs : s.size ≤ maxLen) (h1 : Strs w a1 xs) (e1 : xs.length = n1) (s1 : SP a1) (f1 : ∀ x, a1 = some x → xs ≠ [] → ¬ fp x.block) (A : Int) (hA : putE [(nB, r)] s cpu mem xs [] = A) (hA0 : A ≠ 0) :
    Calls Try.prog 15 #[.pointer (some ⟨L, 0, none⟩), .agg #[.string s, .int .i64 cpu, .int .i64 mem, .slice a1 n1 c1, .slice none 0 0, .bool al]] w fun e w' => e = .returned (.int .i64 A) ∧ Below w.heap.size w w' := by
  refine (put_is w L fp r G h s cpu mem a1 n1 c1 al xs hs h1 e1 s1 f1).mono ?_
  rintro e w' ⟨rfl, hP⟩
  rw [hA] at hP ⊢
  obtain ⟨fp', p', q', a3, c3, a4, c4, hI, g1, g2, g3, g4⟩ := hP
  exact ⟨rfl, g4 hA0⟩

theorem put_again (w : World) (L : Nat) (fp : Nat → Prop) (r : Rec) (G : List (Int × Grp)) (h : One w L fp r G) (cpu mem : Int) (a1 : Option Addr) (n1 c1 : Nat) (al : Bool) (xs : List ByteArray) (h1 : Strs w a1 xs) (e1 : xs.length = n1) (s1 : SP a1) (f1 : ∀ x, a1 = some x → xs ≠ [] → ¬ fp x.block)
    (hN : nodeE nB cpu mem xs [] = 0) (hf : r.u ≤ cpu ∧ r.m ≤ mem) (hc : cpu ≤ 9223372036854775807 ∧ mem ≤ 9223372036854775807) :
    Calls Try.prog 15 #[.pointer (some ⟨L, 0, none⟩), .agg #[.string nB, .int .i64 cpu, .int .i64 mem, .slice a1 n1 c1, .slice none 0 0, .bool al]] w fun e w' => e = .returned (.int .i64 0) ∧ ∃ fp' r', One w' L fp' r' G ∧ r'.core = (nB, cpu, mem, xs, [], al) ∧ r'.u = r.u ∧ r'.m = r.m ∧ r'.k = r.k ∧ (∀ b, fp' b → fp b ∨ w.heap.size ≤ b) ∧ Kept fp w w' := by
  have hl : (look [(nB, r)] nB).getD zrec = r := by rw [look_one, if_pos rfl]; rfl
  have e0 : putE [(nB, r)] nB cpu mem xs [] = 0 := by
    unfold putE
    rw [hN, hl, look_one]
    simp [hf]
  refine (put_is w L fp r G h nB cpu mem a1 n1 c1 al xs nB_small h1 e1 s1 f1).mono ?_
  rintro e w' ⟨rfl, hP⟩
  rw [e0, hl] at hP
  rw [e0]
  obtain ⟨fp', p', q', a3, c3, a4, c4, hI, g1, g2, g3, _⟩ := hP
  rw [if_pos rfl, put_one'] at hI
  obtain ⟨⟨k1, k2, k3, k4, k5, k6⟩, hnm, _⟩ := h
  exact ⟨rfl, fp', ⟨nB, cpu, mem, a3, c3, xs, a4, c4, [], al, r.u, r.m, r.k⟩, ⟨⟨k1, k2, k3, k4, hc.1, hc.2⟩, rfl, p', q', hI⟩, rfl, rfl, rfl, rfl, g2, g3⟩

set_option maxRecDepth 100000 in
set_option maxHeartbeats 1000000 in
theorem room_any (cpu mem : Int) (hc : 0 ≤ cpu ∧ cpu ≤ 1099511627776) (hm : 0 ≤ mem ∧ mem ≤ 1099511627776) (w : World) : Calls Try.prog 9 #[.int .i64 cpu, .int .i64 mem] w fun e w' =>
    ∃ L fp r, e = .returned (.pointer (some ⟨L, 0, none⟩)) ∧ One w' L fp r [] ∧ r.core = (nB, cpu, mem, [], [], false) ∧ r.u = 0 ∧ r.m = 0 ∧ r.k = 0 ∧ (∀ b, fp b → w.heap.size ≤ b) ∧ Below w.heap.size w w' := by
  go_enter Try.func9, Try.ntmps9
  go_wp2_with (first
    | (go_at_call 17; refine (new_any w).mono ?_; rintro e w1 ⟨L, fp, rfl, hI1, hf1, hb1⟩; have k2 := put_first w1 L fp none none [] hI1 cpu mem hc hm)
    | (go_at_call 15; refine k2.mono ?_; rintro e w3 ⟨rfl, fp3, r, hO3, hc3, hu3, hm3, hk3, hf3, hK3⟩))
  go_ret
  exact ⟨L, fp3, r, rfl, hO3, hc3, hu3, hm3, hk3, fun b hb => (hf3 b hb).elim (hf1 b) (fun h => Nat.le_trans hb1.size h), hb1.trans (hK3.below hb1.size hf1)⟩

end Go.Proofs.Ytcmgpbdciifdmab
