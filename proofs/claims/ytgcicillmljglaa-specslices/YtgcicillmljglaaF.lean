/- The contracts of the statements' own tests of what is not too much, and of the chapter's Size. -/
import Derived.Test.YtgcicillmljglaaSL
namespace Go.Proofs.Ytgcicillmljglaa
open Go.RowKit

/-- A row of texts that came in: whatever place is asked for below the length, it is there. -/
def StrsIn (w : World) (a : Option Addr) (ss : List ByteArray) : Prop :=
  ss.length ≤ maxLen ∧ ∀ i, i < ss.length → ∃ x, a = some x ∧ w.cell? (x.add i) = some (.string (ss.getD i ByteArray.empty))

theorem StrsIn.later {w w1 : World} {a : Option Addr} {ss : List ByteArray} (h : StrsIn w a ss) (hb : Below w.heap.size w w1) : StrsIn w1 a ss :=
  ⟨h.1, fun i hi => by
    obtain ⟨x, hx, hc⟩ := h.2 i hi
    exact ⟨x, hx, cell_below hb hc (block_lt hc)⟩⟩

theorem StrsIn.few {w : World} {a : Option Addr} {ss : List ByteArray} (h : StrsIn w a ss) (hl : ss.length ≤ 10) : Strs w a ss := ⟨by omega, h.2⟩

/-- Few texts, and short ones. -/
def fewB (l : List ByteArray) : Bool := l.all (fun s => decide (s.size ≤ 60)) && decide (l.length ≤ 10)

set_option maxRecDepth 100000 in
set_option maxHeartbeats 2000000 in
theorem few_any (a : Option Addr) (c n : Nat) (l : List ByteArray) (w : World) (hl : l.length = n) (hS : StrsIn w a l) :
    Calls Try.prog 32 #[.slice a n c] w fun e w' => e = .returned (.bool (fewB l)) ∧ w' = w := by
  have hm := hS.1
  unfold maxLen at hm
  obtain ⟨A, hA⟩ : ∃ A, fewB l = A := ⟨_, rfl⟩
  have hA0 : Hid (((l.drop 0).all (fun s => decide (s.size ≤ 60)) && decide (l.length ≤ 10)) = A) := hA
  rw [hA]
  clear hA
  go_enter Try.func32, Try.ntmps32
  go_wp2
  go_loopw [3] (fun i wr => ∃ k : Nat, k ≤ n ∧ i = .int .i64 k ∧ Hid (((l.drop k).all (fun s => decide (s.size ≤ 60)) && decide (l.length ≤ 10)) = A) ∧ wr = w) (fun i _ => n - (intOf i).toNat)
  case atStart => exact ⟨0, Nat.zero_le _, rfl, hA0, rfl⟩
  case round =>
    obtain ⟨k, hk, rfl, HS, rfl⟩ := hrel
    clear hA0
    by_cases hlt : k < n
    · obtain ⟨x, rfl, hcs⟩ := hS.2 k (by omega)
      have hd := drop_at l k (by omega)
      obtain ⟨t, ht⟩ : ∃ t, l.getD k ByteArray.empty = t := ⟨_, rfl⟩
      rw [ht] at hcs hd
      have H2 : Hid (A = (decide (t.size ≤ 60) && (l.drop (k + 1)).all (fun s => decide (s.size ≤ 60)) && decide (l.length ≤ 10))) := by
        show _ = _
        rw [← HS.out, hd]; rfl
      clear HS hd hS ht
      by_cases hs : (60 : Int) < t.size
      · have e1 : A = false := by rw [H2.out]; have : decide (t.size ≤ 60) = false := by simp; omega
                                  rw [this]; rfl
        subst e1
        go_wp2
        go_ret
        exact ⟨rfl, rfl⟩
      · have e1 : Hid (((l.drop (k + 1)).all (fun s => decide (s.size ≤ 60)) && decide (l.length ≤ 10)) = A) := by
          show _ = _
          rw [H2.out]; have : decide (t.size ≤ 60) = true := by simp; omega
          rw [this]; rfl
        go_wp2
        go_roundw
        case rel => exact ⟨k + 1, hlt, by go_num, e1, by first | rfl | trivial⟩
        case measure => simp [intOf]; omega
    · have e1 : A = decide (l.length ≤ 10) := by rw [← HS.out, List.drop_of_length_le (by omega)]; rfl
      have e2 : (decide ((n : Int) ≤ 10)) = A := by rw [e1]; congr 1; rw [hl]; simp; omega
      clear hS HS e1
      go_wp2
      go_ret
      exact ⟨by rw [← e2]; first | done | rfl, rfl⟩

theorem few_is (a : Option Addr) (c n : Nat) (l : List ByteArray) (b : Bool) (w : World) (hl : l.length = n) (hS : StrsIn w a l) (hb : fewB l = b) :
    Calls Try.prog 32 #[.slice a n c] w fun e w' => e = .returned (.bool b) ∧ w' = w := by
  subst hb
  exact few_any a c n l w hl hS

/-- A raw pod, or node, that is not too much. -/
def fewP (s : ByteArray) (xs ys : List ByteArray) : Bool := decide (s.size ≤ 60) && fewB xs && fewB ys

set_option maxRecDepth 100000 in
theorem fewPod_any (s : ByteArray) (shard cpu mem : Int) (a1 a2 : Option Addr) (n1 n2 c1 c2 : Nat) (al : Bool) (xs ys : List ByteArray) (w : World) (h1 : StrsIn w a1 xs) (h2 : StrsIn w a2 ys) (e1 : xs.length = n1) (e2 : ys.length = n2) :
    Calls Try.prog 10 #[.agg #[.string s, .int .i64 shard, .int .i64 cpu, .int .i64 mem, .slice a1 n1 c1, .slice a2 n2 c2, .bool al]] w fun e w' => e = .returned (.bool (fewP s xs ys)) ∧ Below w.heap.size w w' := by
  unfold fewP
  obtain ⟨b1, hb1⟩ : ∃ b, fewB xs = b := ⟨_, rfl⟩
  obtain ⟨b2, hb2⟩ : ∃ b, fewB ys = b := ⟨_, rfl⟩
  rw [hb1, hb2]
  have hA : ∀ o, Below w.heap.size w (w.alloc o) := fun o => up (Below.refl _ _) o
  have k1 := fun o => few_is a1 c1 n1 xs b1 (w.alloc o) e1 (h1.later (hA o)) hb1
  have k2 := fun o => few_is a2 c2 n2 ys b2 (w.alloc o) e2 (h2.later (hA o)) hb2
  clear h1 h2 e1 e2 hb1 hb2
  by_cases hs : (s.size : Int) ≤ 60
  · have : decide (s.size ≤ 60) = true := by simp; omega
    rw [this]
    cases b1 <;> cases b2
    all_goals
      go_enter Try.func10, Try.ntmps10
      go_wp2_with (first
        | (go_at_call_of 32 (Value.slice a1 n1 c1); refine (k1 _).mono ?_; rintro e w3 ⟨rfl, rfl⟩)
        | (go_at_call_of 32 (Value.slice a2 n2 c2); refine (k2 _).mono ?_; rintro e w3 ⟨rfl, rfl⟩))
      go_ret
      exact ⟨rfl, hA _⟩
  · have : decide (s.size ≤ 60) = false := by simp; omega
    rw [this]
    go_enter Try.func10, Try.ntmps10
    go_wp2
    go_ret
    exact ⟨rfl, hA _⟩

set_option maxRecDepth 100000 in
theorem fewNode_any (s : ByteArray) (cpu mem : Int) (a1 a2 : Option Addr) (n1 n2 c1 c2 : Nat) (al : Bool) (xs ys : List ByteArray) (w : World) (h1 : StrsIn w a1 xs) (h2 : StrsIn w a2 ys) (e1 : xs.length = n1) (e2 : ys.length = n2) :
    Calls Try.prog 17 #[.agg #[.string s, .int .i64 cpu, .int .i64 mem, .slice a1 n1 c1, .slice a2 n2 c2, .bool al]] w fun e w' => e = .returned (.bool (fewP s xs ys)) ∧ Below w.heap.size w w' := by
  unfold fewP
  obtain ⟨b1, hb1⟩ : ∃ b, fewB xs = b := ⟨_, rfl⟩
  obtain ⟨b2, hb2⟩ : ∃ b, fewB ys = b := ⟨_, rfl⟩
  rw [hb1, hb2]
  have hA : ∀ o, Below w.heap.size w (w.alloc o) := fun o => up (Below.refl _ _) o
  have k1 := fun o => few_is a1 c1 n1 xs b1 (w.alloc o) e1 (h1.later (hA o)) hb1
  have k2 := fun o => few_is a2 c2 n2 ys b2 (w.alloc o) e2 (h2.later (hA o)) hb2
  clear h1 h2 e1 e2 hb1 hb2
  by_cases hs : (s.size : Int) ≤ 60
  · have : decide (s.size ≤ 60) = true := by simp; omega
    rw [this]
    cases b1 <;> cases b2
    all_goals
      go_enter Try.func17, Try.ntmps17
      go_wp2_with (first
        | (go_at_call_of 32 (Value.slice a1 n1 c1); refine (k1 _).mono ?_; rintro e w3 ⟨rfl, rfl⟩)
        | (go_at_call_of 32 (Value.slice a2 n2 c2); refine (k2 _).mono ?_; rintro e w3 ⟨rfl, rfl⟩))
      go_ret
      exact ⟨rfl, hA _⟩
  · have : decide (s.size ≤ 60) = false := by simp; omega
    rw [this]
    go_enter Try.func17, Try.ntmps17
    go_wp2
    go_ret
    exact ⟨rfl, hA _⟩

set_option maxRecDepth 100000 in
theorem rSize_any (b : Bool) (x y : Int) (h : sizeB x y = b) (w : World) :
    Calls Try.prog 37 #[.agg #[.int .i64 x, .int .i64 y]] w fun e w' => e = .returned (.bool b) ∧ Below w.heap.size w w' := by
  subst h
  unfold sizeB
  by_cases g1 : 0 ≤ x <;> by_cases g2 : 0 ≤ y <;> by_cases g3 : x ≤ 1099511627776 <;> by_cases g4 : y ≤ 1099511627776 <;> simp only [g1, g2, g3, g4, and_true, and_false, and_self, decide_true, decide_false]
  all_goals first | (exfalso; omega) | skip
  all_goals
    go_enter Try.func37, Try.ntmps37
    go_wp2
    go_ret
    exact ⟨rfl, up (Below.refl _ _) _⟩

end Go.Proofs.Ytgcicillmljglaa
