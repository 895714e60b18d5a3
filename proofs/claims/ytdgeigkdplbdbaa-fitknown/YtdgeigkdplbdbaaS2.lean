/- The contracts of the chapter's own In and All. -/
import Derived.Test.YtdgeigkdplbdbaaS
namespace Go.Proofs.Ytdgeigkdplbdbaa
open Go.RowKit Go.Maps

set_option maxRecDepth 100000 in
set_option maxHeartbeats 2000000 in
theorem in_any (a : Option Addr) (cap : Nat) (l : List ByteArray) (s : ByteArray) (w : World) (hS : Strs w a l) :
    Calls Try.prog 27 #[.slice a l.length cap, .string s] w fun e w' => e = .returned (.bool (inB l s)) ∧ w' = w := by
  have hl := hS.1
  obtain ⟨A, hA⟩ : ∃ A, inB l s = A := ⟨_, rfl⟩
  have hA0 : Hid (inB (l.drop 0) s = A) := hA
  rw [hA]
  clear hA
  go_enter Try.func27, Try.ntmps27
  go_wp2
  go_loopw [5] (fun i wr => ∃ k : Nat, k ≤ l.length ∧ i = .int .i64 k ∧ Hid (inB (l.drop k) s = A) ∧ wr = w) (fun i _ => l.length - (intOf i).toNat)
  case atStart => exact ⟨0, Nat.zero_le _, rfl, hA0, rfl⟩
  case round =>
    obtain ⟨k, hk, rfl, HS, rfl⟩ := hrel
    clear hA0
    by_cases hlt : k < l.length
    · obtain ⟨x, rfl, hcs⟩ := hS.2 k hlt
      have hd := drop_at l k hlt
      obtain ⟨t, ht⟩ : ∃ t, l.getD k ByteArray.empty = t := ⟨_, rfl⟩
      rw [ht] at hcs hd
      obtain ⟨b, hb⟩ : ∃ b, (t.toList == s.toList) = b := ⟨_, rfl⟩
      have H2 : Hid (A = (b || inB (l.drop (k + 1)) s)) := by
        show _ = _
        rw [← HS.out, hd, ← hb]; rfl
      clear HS hd hS ht
      cases b
      all_goals
        go_wp2
        first
        | (go_roundw
           case rel => exact ⟨k + 1, hlt, by go_num, (by show _ = _; rw [H2.out]; first | done | rfl), by first | rfl | trivial⟩
           case measure => simp [intOf]; omega)
        | (go_ret
           exact ⟨by rw [H2.out]; rfl, rfl⟩)
    · have e1 : k = l.length := by omega
      have e2 : A = false := by rw [← HS.out, e1, List.drop_length]; rfl
      subst e2
      clear hS
      go_wp2
      go_ret
      exact ⟨rfl, rfl⟩

set_option maxRecDepth 100000 in
set_option maxHeartbeats 2000000 in
theorem rAll_any (a1 : Option Addr) (cap1 : Nat) (of : List ByteArray) (a2 : Option Addr) (cap2 : Nat) (l : List ByteArray) (w : World) (h1 : Strs w a1 of) (h2 : Strs w a2 l) :
    Calls Try.prog 18 #[.slice a1 of.length cap1, .slice a2 l.length cap2] w fun e w' => e = .returned (.bool (allB of l)) ∧ w' = w := by
  have l1 := h1.1
  obtain ⟨A, hA⟩ : ∃ A, allB of l = A := ⟨_, rfl⟩
  have hA0 : Hid (allB (of.drop 0) l = A) := hA
  rw [hA]
  clear hA
  go_enter Try.func18, Try.ntmps18
  go_wp2
  go_loopw [5] (fun i wr => ∃ k : Nat, k ≤ of.length ∧ i = .int .i64 k ∧ Hid (allB (of.drop k) l = A) ∧ wr = w) (fun i _ => of.length - (intOf i).toNat)
  case atStart => exact ⟨0, Nat.zero_le _, rfl, hA0, rfl⟩
  case round =>
    obtain ⟨k, hk, rfl, HS, rfl⟩ := hrel
    clear hA0
    by_cases hlt : k < of.length
    · obtain ⟨x, rfl, hcs⟩ := h1.2 k hlt
      have hd := drop_at of k hlt
      obtain ⟨t, ht⟩ : ∃ t, of.getD k ByteArray.empty = t := ⟨_, rfl⟩
      rw [ht] at hcs hd
      obtain ⟨b, hb⟩ : ∃ b, inB l t = b := ⟨_, rfl⟩
      have H2 : Hid (A = (b && allB (of.drop (k + 1)) l)) := by
        show _ = _
        rw [← HS.out, hd, ← hb]; rfl
      have n1 := in_any a2 cap2 l t wr h2
      rw [hb] at n1
      clear HS hd h1 h2 ht hb
      cases b
      all_goals
        go_wp2_with (go_at_call 27; refine n1.mono ?_; rintro e w8 ⟨rfl, rfl⟩)
        first
        | (go_roundw
           case rel => exact ⟨k + 1, hlt, by go_num, (by show _ = _; rw [H2.out]; rfl), by first | rfl | trivial⟩
           case measure => simp [intOf]; omega)
        | (go_ret
           exact ⟨by rw [H2.out]; rfl, rfl⟩)
    · have e1 : k = of.length := by omega
      have e2 : A = true := by rw [← HS.out, e1, List.drop_length]; rfl
      subst e2
      clear h1 h2
      go_wp2
      go_ret
      exact ⟨rfl, rfl⟩

end Go.Proofs.Ytdgeigkdplbdbaa
