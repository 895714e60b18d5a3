/- The contracts of the chapter's own Pod and Node. -/
import Derived.Test.YtgcicillmljglaaS3
import Derived.Test.YtgcicillmljglaaF
namespace Go.Proofs.Ytgcicillmljglaa
open Go.RowKit

theorem short_max {l : List ByteArray} (h : ∀ s ∈ l, s.size ≤ 1000) (i : Nat) : (l.getD i ByteArray.empty).size ≤ maxLen := by
  rcases Nat.lt_or_ge i l.length with hi | hi
  · have := h _ (List.getElem_mem hi)
    simp [List.getD, List.getElem?_eq_getElem hi]
    unfold maxLen
    omega
  · simp [List.getD, List.getElem?_eq_none hi]

theorem rSet_is (a : Option Addr) (n c : Nat) (ss : List ByteArray) (b : Bool) (W : World) (h : Strs W a ss) (e : ss.length = n) (hz : ∀ s ∈ ss, s.size ≤ 1000) (hb : setB ss = b) :
    Calls Try.prog 38 #[.slice a n c] W fun e w' => e = .returned (.bool b) ∧ Below W.heap.size W w' := by
  subst e hb
  exact rSet_any a c ss W h (short_max hz)

set_option maxRecDepth 100000 in
set_option maxHeartbeats 2000000 in
theorem rPod_any (s : ByteArray) (shard cpu mem : Int) (a1 a2 : Option Addr) (n1 n2 c1 c2 : Nat) (al : Bool) (xs ys : List ByteArray) (S : Int) (w : World) (h1 : Strs w a1 xs) (h2 : Strs w a2 ys) (e1 : xs.length = n1) (e2 : ys.length = n2) (hs : s.size ≤ maxLen) (z1 : ∀ s ∈ xs, s.size ≤ 1000) (z2 : ∀ s ∈ ys, s.size ≤ 1000) :
    Calls Try.prog 14 #[.agg #[.string s, .int .i64 shard, .int .i64 cpu, .int .i64 mem, .slice a1 n1 c1, .slice a2 n2 c2, .bool al], .int .i64 S] w fun e w' =>
      e = .returned (.int .i64 (podE s shard cpu mem xs ys S)) ∧ Below w.heap.size w w' := by
  unfold podE
  obtain ⟨b, hb⟩ : ∃ b, sizeB cpu mem = b := ⟨_, rfl⟩
  obtain ⟨b0, hb0⟩ : ∃ b, isName s = b := ⟨_, rfl⟩
  obtain ⟨b1, hb1⟩ : ∃ b, setB xs = b := ⟨_, rfl⟩
  obtain ⟨b2, hb2⟩ : ∃ b, setB ys = b := ⟨_, rfl⟩
  rw [hb, hb0, hb1, hb2]
  have hO := up (Below.refl w.heap.size w) (.cells #[.string s, .int .i64 shard, .int .i64 cpu, .int .i64 mem, .slice a1 n1 c1, .slice a2 n2 c2, .bool al] 26)
  have kn := fun W => rName_any s W hs
  rw [hb0] at kn
  have kb := fun W => rSize_any b cpu mem hb W
  have k1 := fun W (h : Below w.heap.size w W) => rSet_is a1 n1 c1 xs b1 W (h1.later h) e1 z1 hb1
  have k2 := fun W (h : Below w.heap.size w W) => rSet_is a2 n2 c2 ys b2 W (h2.later h) e2 z2 hb2
  clear h1 h2 e1 e2 hb hb0 hb1 hb2 z1 z2
  have g3 : decide (1 ≤ shard) = !decide (shard < 1) := by rw [Bool.eq_iff_iff]; simp
  have g4 : decide (shard ≤ S) = !decide (S < shard) := by rw [Bool.eq_iff_iff]; simp
  rw [g3, g4]
  clear g3 g4
  cases b0
  · have e0 : askE false (!decide (shard < 1) && !decide (S < shard) && b) b1 b2 = 1 := rfl
    rw [e0]
    go_enter Try.func14, Try.ntmps14
    go_wp2_with (first
      | (go_at_call 36; refine (kn _).mono ?_; rintro e w3 ⟨rfl, h3⟩
         have x1 : w3.cell? ⟨w.heap.size, 1, none⟩ = some (.int .i64 shard) := cell_below h3 (by simp) (by simp)
         have x2 : w3.cell? ⟨w.heap.size, 2, none⟩ = some (.int .i64 cpu) := cell_below h3 (by simp) (by simp)
         have x3 : w3.cell? ⟨w.heap.size, 3, none⟩ = some (.int .i64 mem) := cell_below h3 (by simp) (by simp)
         have x4 : w3.cell? ⟨w.heap.size, 4, none⟩ = some (.slice a1 n1 c1) := cell_below h3 (by simp) (by simp)
         have x5 : w3.cell? ⟨w.heap.size, 5, none⟩ = some (.slice a2 n2 c2) := cell_below h3 (by simp) (by simp)
         replace h3 := hO.trans (h3.mono hO.size))
      | (go_at_call 37; refine (kb _).mono ?_; rintro e w4 ⟨rfl, h4⟩
         replace x4 := cell_below h4 x4 (block_lt x4)
         replace x5 := cell_below h4 x5 (block_lt x5)
         replace h3 := h3.trans (h4.mono h3.size))
      | (go_at_call_of 38 (Value.slice a1 n1 c1); refine (k1 _ h3).mono ?_; rintro e w5 ⟨rfl, h5⟩
         replace x5 := cell_below h5 x5 (block_lt x5)
         replace h3 := h3.trans (h5.mono h3.size))
      | (go_at_call_of 38 (Value.slice a2 n2 c2); refine (k2 _ h3).mono ?_; rintro e w6 ⟨rfl, h6⟩
         replace h3 := h3.trans (h6.mono h3.size)))
    go_ret
    exact ⟨rfl, h3⟩
  · by_cases g1 : shard < 1
    · have e0 : askE true (!decide (shard < 1) && !decide (S < shard) && b) b1 b2 = 2 := by simp [g1, askE]
      rw [e0]
      go_enter Try.func14, Try.ntmps14
      go_wp2_with (first
        | (go_at_call 36; refine (kn _).mono ?_; rintro e w3 ⟨rfl, h3⟩
           have x1 : w3.cell? ⟨w.heap.size, 1, none⟩ = some (.int .i64 shard) := cell_below h3 (by simp) (by simp)
           have x2 : w3.cell? ⟨w.heap.size, 2, none⟩ = some (.int .i64 cpu) := cell_below h3 (by simp) (by simp)
           have x3 : w3.cell? ⟨w.heap.size, 3, none⟩ = some (.int .i64 mem) := cell_below h3 (by simp) (by simp)
           have x4 : w3.cell? ⟨w.heap.size, 4, none⟩ = some (.slice a1 n1 c1) := cell_below h3 (by simp) (by simp)
           have x5 : w3.cell? ⟨w.heap.size, 5, none⟩ = some (.slice a2 n2 c2) := cell_below h3 (by simp) (by simp)
           replace h3 := hO.trans (h3.mono hO.size))
        | (go_at_call 37; refine (kb _).mono ?_; rintro e w4 ⟨rfl, h4⟩
           replace x4 := cell_below h4 x4 (block_lt x4)
           replace x5 := cell_below h4 x5 (block_lt x5)
           replace h3 := h3.trans (h4.mono h3.size))
        | (go_at_call_of 38 (Value.slice a1 n1 c1); refine (k1 _ h3).mono ?_; rintro e w5 ⟨rfl, h5⟩
           replace x5 := cell_below h5 x5 (block_lt x5)
           replace h3 := h3.trans (h5.mono h3.size))
        | (go_at_call_of 38 (Value.slice a2 n2 c2); refine (k2 _ h3).mono ?_; rintro e w6 ⟨rfl, h6⟩
           replace h3 := h3.trans (h6.mono h3.size)))
      go_ret
      exact ⟨rfl, h3⟩
    · by_cases g2 : S < shard
      · have e0 : askE true (!decide (shard < 1) && !decide (S < shard) && b) b1 b2 = 2 := by simp [g2, askE]
        rw [e0]
        go_enter Try.func14, Try.ntmps14
        go_wp2_with (first
          | (go_at_call 36; refine (kn _).mono ?_; rintro e w3 ⟨rfl, h3⟩
             have x1 : w3.cell? ⟨w.heap.size, 1, none⟩ = some (.int .i64 shard) := cell_below h3 (by simp) (by simp)
             have x2 : w3.cell? ⟨w.heap.size, 2, none⟩ = some (.int .i64 cpu) := cell_below h3 (by simp) (by simp)
             have x3 : w3.cell? ⟨w.heap.size, 3, none⟩ = some (.int .i64 mem) := cell_below h3 (by simp) (by simp)
             have x4 : w3.cell? ⟨w.heap.size, 4, none⟩ = some (.slice a1 n1 c1) := cell_below h3 (by simp) (by simp)
             have x5 : w3.cell? ⟨w.heap.size, 5, none⟩ = some (.slice a2 n2 c2) := cell_below h3 (by simp) (by simp)
             replace h3 := hO.trans (h3.mono hO.size))
          | (go_at_call 37; refine (kb _).mono ?_; rintro e w4 ⟨rfl, h4⟩
             replace x4 := cell_below h4 x4 (block_lt x4)
             replace x5 := cell_below h4 x5 (block_lt x5)
             replace h3 := h3.trans (h4.mono h3.size))
          | (go_at_call_of 38 (Value.slice a1 n1 c1); refine (k1 _ h3).mono ?_; rintro e w5 ⟨rfl, h5⟩
             replace x5 := cell_below h5 x5 (block_lt x5)
             replace h3 := h3.trans (h5.mono h3.size))
          | (go_at_call_of 38 (Value.slice a2 n2 c2); refine (k2 _ h3).mono ?_; rintro e w6 ⟨rfl, h6⟩
             replace h3 := h3.trans (h6.mono h3.size)))
        go_ret
        exact ⟨rfl, h3⟩
      · simp only [g1, g2, decide_false, Bool.not_false, Bool.true_and]
        cases b
        · have e0 : askE true false b1 b2 = 2 := rfl
          rw [e0]
          go_enter Try.func14, Try.ntmps14
          go_wp2_with (first
            | (go_at_call 36; refine (kn _).mono ?_; rintro e w3 ⟨rfl, h3⟩
               have x1 : w3.cell? ⟨w.heap.size, 1, none⟩ = some (.int .i64 shard) := cell_below h3 (by simp) (by simp)
               have x2 : w3.cell? ⟨w.heap.size, 2, none⟩ = some (.int .i64 cpu) := cell_below h3 (by simp) (by simp)
               have x3 : w3.cell? ⟨w.heap.size, 3, none⟩ = some (.int .i64 mem) := cell_below h3 (by simp) (by simp)
               have x4 : w3.cell? ⟨w.heap.size, 4, none⟩ = some (.slice a1 n1 c1) := cell_below h3 (by simp) (by simp)
               have x5 : w3.cell? ⟨w.heap.size, 5, none⟩ = some (.slice a2 n2 c2) := cell_below h3 (by simp) (by simp)
               replace h3 := hO.trans (h3.mono hO.size))
            | (go_at_call 37; refine (kb _).mono ?_; rintro e w4 ⟨rfl, h4⟩
               replace x4 := cell_below h4 x4 (block_lt x4)
               replace x5 := cell_below h4 x5 (block_lt x5)
               replace h3 := h3.trans (h4.mono h3.size))
            | (go_at_call_of 38 (Value.slice a1 n1 c1); refine (k1 _ h3).mono ?_; rintro e w5 ⟨rfl, h5⟩
               replace x5 := cell_below h5 x5 (block_lt x5)
               replace h3 := h3.trans (h5.mono h3.size))
            | (go_at_call_of 38 (Value.slice a2 n2 c2); refine (k2 _ h3).mono ?_; rintro e w6 ⟨rfl, h6⟩
               replace h3 := h3.trans (h6.mono h3.size)))
          go_ret
          exact ⟨rfl, h3⟩
        · cases b1
          · have e0 : askE true true false b2 = 1 := rfl
            rw [e0]
            go_enter Try.func14, Try.ntmps14
            go_wp2_with (first
              | (go_at_call 36; refine (kn _).mono ?_; rintro e w3 ⟨rfl, h3⟩
                 have x1 : w3.cell? ⟨w.heap.size, 1, none⟩ = some (.int .i64 shard) := cell_below h3 (by simp) (by simp)
                 have x2 : w3.cell? ⟨w.heap.size, 2, none⟩ = some (.int .i64 cpu) := cell_below h3 (by simp) (by simp)
                 have x3 : w3.cell? ⟨w.heap.size, 3, none⟩ = some (.int .i64 mem) := cell_below h3 (by simp) (by simp)
                 have x4 : w3.cell? ⟨w.heap.size, 4, none⟩ = some (.slice a1 n1 c1) := cell_below h3 (by simp) (by simp)
                 have x5 : w3.cell? ⟨w.heap.size, 5, none⟩ = some (.slice a2 n2 c2) := cell_below h3 (by simp) (by simp)
                 replace h3 := hO.trans (h3.mono hO.size))
              | (go_at_call 37; refine (kb _).mono ?_; rintro e w4 ⟨rfl, h4⟩
                 replace x4 := cell_below h4 x4 (block_lt x4)
                 replace x5 := cell_below h4 x5 (block_lt x5)
                 replace h3 := h3.trans (h4.mono h3.size))
              | (go_at_call_of 38 (Value.slice a1 n1 c1); refine (k1 _ h3).mono ?_; rintro e w5 ⟨rfl, h5⟩
                 replace x5 := cell_below h5 x5 (block_lt x5)
                 replace h3 := h3.trans (h5.mono h3.size))
              | (go_at_call_of 38 (Value.slice a2 n2 c2); refine (k2 _ h3).mono ?_; rintro e w6 ⟨rfl, h6⟩
                 replace h3 := h3.trans (h6.mono h3.size)))
            go_ret
            exact ⟨rfl, h3⟩
          · cases b2
            all_goals
              go_enter Try.func14, Try.ntmps14
              go_wp2_with (first
                | (go_at_call 36; refine (kn _).mono ?_; rintro e w3 ⟨rfl, h3⟩
                   have x1 : w3.cell? ⟨w.heap.size, 1, none⟩ = some (.int .i64 shard) := cell_below h3 (by simp) (by simp)
                   have x2 : w3.cell? ⟨w.heap.size, 2, none⟩ = some (.int .i64 cpu) := cell_below h3 (by simp) (by simp)
                   have x3 : w3.cell? ⟨w.heap.size, 3, none⟩ = some (.int .i64 mem) := cell_below h3 (by simp) (by simp)
                   have x4 : w3.cell? ⟨w.heap.size, 4, none⟩ = some (.slice a1 n1 c1) := cell_below h3 (by simp) (by simp)
                   have x5 : w3.cell? ⟨w.heap.size, 5, none⟩ = some (.slice a2 n2 c2) := cell_below h3 (by simp) (by simp)
                   replace h3 := hO.trans (h3.mono hO.size))
                | (go_at_call 37; refine (kb _).mono ?_; rintro e w4 ⟨rfl, h4⟩
                   replace x4 := cell_below h4 x4 (block_lt x4)
                   replace x5 := cell_below h4 x5 (block_lt x5)
                   replace h3 := h3.trans (h4.mono h3.size))
                | (go_at_call_of 38 (Value.slice a1 n1 c1); refine (k1 _ h3).mono ?_; rintro e w5 ⟨rfl, h5⟩
                   replace x5 := cell_below h5 x5 (block_lt x5)
                   replace h3 := h3.trans (h5.mono h3.size))
                | (go_at_call_of 38 (Value.slice a2 n2 c2); refine (k2 _ h3).mono ?_; rintro e w6 ⟨rfl, h6⟩
                   replace h3 := h3.trans (h6.mono h3.size)))
              go_ret
              exact ⟨rfl, h3⟩

set_option maxRecDepth 100000 in
set_option maxHeartbeats 2000000 in
theorem rNode_any (s : ByteArray) (cpu mem : Int) (a1 a2 : Option Addr) (n1 n2 c1 c2 : Nat) (al : Bool) (xs ys : List ByteArray) (w : World) (h1 : Strs w a1 xs) (h2 : Strs w a2 ys) (e1 : xs.length = n1) (e2 : ys.length = n2) (hs : s.size ≤ maxLen) (z1 : ∀ s ∈ xs, s.size ≤ 1000) (z2 : ∀ s ∈ ys, s.size ≤ 1000) :
    Calls Try.prog 20 #[.agg #[.string s, .int .i64 cpu, .int .i64 mem, .slice a1 n1 c1, .slice a2 n2 c2, .bool al]] w fun e w' =>
      e = .returned (.int .i64 (nodeE s cpu mem xs ys)) ∧ Below w.heap.size w w' := by
  unfold nodeE
  obtain ⟨b, hb⟩ : ∃ b, sizeB cpu mem = b := ⟨_, rfl⟩
  obtain ⟨b0, hb0⟩ : ∃ b, isName s = b := ⟨_, rfl⟩
  obtain ⟨b1, hb1⟩ : ∃ b, setB xs = b := ⟨_, rfl⟩
  obtain ⟨b2, hb2⟩ : ∃ b, setB ys = b := ⟨_, rfl⟩
  rw [hb, hb0, hb1, hb2]
  have hO := up (Below.refl w.heap.size w) (.cells #[.string s, .int .i64 cpu, .int .i64 mem, .slice a1 n1 c1, .slice a2 n2 c2, .bool al] 39)
  have kn := fun W => rName_any s W hs
  rw [hb0] at kn
  have kb := fun W => rSize_any b cpu mem hb W
  have k1 := fun W (h : Below w.heap.size w W) => rSet_is a1 n1 c1 xs b1 W (h1.later h) e1 z1 hb1
  have k2 := fun W (h : Below w.heap.size w W) => rSet_is a2 n2 c2 ys b2 W (h2.later h) e2 z2 hb2
  clear h1 h2 e1 e2 hb hb0 hb1 hb2 z1 z2
  cases b0
  · have e0 : askE false b b1 b2 = 1 := rfl
    rw [e0]
    go_enter Try.func20, Try.ntmps20
    go_wp2_with (first
      | (go_at_call 36; refine (kn _).mono ?_; rintro e w3 ⟨rfl, h3⟩
         have x2 : w3.cell? ⟨w.heap.size, 1, none⟩ = some (.int .i64 cpu) := cell_below h3 (by simp) (by simp)
         have x3 : w3.cell? ⟨w.heap.size, 2, none⟩ = some (.int .i64 mem) := cell_below h3 (by simp) (by simp)
         have x4 : w3.cell? ⟨w.heap.size, 3, none⟩ = some (.slice a1 n1 c1) := cell_below h3 (by simp) (by simp)
         have x5 : w3.cell? ⟨w.heap.size, 4, none⟩ = some (.slice a2 n2 c2) := cell_below h3 (by simp) (by simp)
         replace h3 := hO.trans (h3.mono hO.size))
      | (go_at_call 37; refine (kb _).mono ?_; rintro e w4 ⟨rfl, h4⟩
         replace x4 := cell_below h4 x4 (block_lt x4)
         replace x5 := cell_below h4 x5 (block_lt x5)
         replace h3 := h3.trans (h4.mono h3.size))
      | (go_at_call_of 38 (Value.slice a1 n1 c1); refine (k1 _ h3).mono ?_; rintro e w5 ⟨rfl, h5⟩
         replace x5 := cell_below h5 x5 (block_lt x5)
         replace h3 := h3.trans (h5.mono h3.size))
      | (go_at_call_of 38 (Value.slice a2 n2 c2); refine (k2 _ h3).mono ?_; rintro e w6 ⟨rfl, h6⟩
         replace h3 := h3.trans (h6.mono h3.size)))
    go_ret
    exact ⟨rfl, h3⟩
  · cases b
    · have e0 : askE true false b1 b2 = 2 := rfl
      rw [e0]
      go_enter Try.func20, Try.ntmps20
      go_wp2_with (first
        | (go_at_call 36; refine (kn _).mono ?_; rintro e w3 ⟨rfl, h3⟩
           have x2 : w3.cell? ⟨w.heap.size, 1, none⟩ = some (.int .i64 cpu) := cell_below h3 (by simp) (by simp)
           have x3 : w3.cell? ⟨w.heap.size, 2, none⟩ = some (.int .i64 mem) := cell_below h3 (by simp) (by simp)
           have x4 : w3.cell? ⟨w.heap.size, 3, none⟩ = some (.slice a1 n1 c1) := cell_below h3 (by simp) (by simp)
           have x5 : w3.cell? ⟨w.heap.size, 4, none⟩ = some (.slice a2 n2 c2) := cell_below h3 (by simp) (by simp)
           replace h3 := hO.trans (h3.mono hO.size))
        | (go_at_call 37; refine (kb _).mono ?_; rintro e w4 ⟨rfl, h4⟩
           replace x4 := cell_below h4 x4 (block_lt x4)
           replace x5 := cell_below h4 x5 (block_lt x5)
           replace h3 := h3.trans (h4.mono h3.size))
        | (go_at_call_of 38 (Value.slice a1 n1 c1); refine (k1 _ h3).mono ?_; rintro e w5 ⟨rfl, h5⟩
           replace x5 := cell_below h5 x5 (block_lt x5)
           replace h3 := h3.trans (h5.mono h3.size))
        | (go_at_call_of 38 (Value.slice a2 n2 c2); refine (k2 _ h3).mono ?_; rintro e w6 ⟨rfl, h6⟩
           replace h3 := h3.trans (h6.mono h3.size)))
      go_ret
      exact ⟨rfl, h3⟩
    · cases b1
      · have e0 : askE true true false b2 = 1 := rfl
        rw [e0]
        go_enter Try.func20, Try.ntmps20
        go_wp2_with (first
          | (go_at_call 36; refine (kn _).mono ?_; rintro e w3 ⟨rfl, h3⟩
             have x2 : w3.cell? ⟨w.heap.size, 1, none⟩ = some (.int .i64 cpu) := cell_below h3 (by simp) (by simp)
             have x3 : w3.cell? ⟨w.heap.size, 2, none⟩ = some (.int .i64 mem) := cell_below h3 (by simp) (by simp)
             have x4 : w3.cell? ⟨w.heap.size, 3, none⟩ = some (.slice a1 n1 c1) := cell_below h3 (by simp) (by simp)
             have x5 : w3.cell? ⟨w.heap.size, 4, none⟩ = some (.slice a2 n2 c2) := cell_below h3 (by simp) (by simp)
             replace h3 := hO.trans (h3.mono hO.size))
          | (go_at_call 37; refine (kb _).mono ?_; rintro e w4 ⟨rfl, h4⟩
             replace x4 := cell_below h4 x4 (block_lt x4)
             replace x5 := cell_below h4 x5 (block_lt x5)
             replace h3 := h3.trans (h4.mono h3.size))
          | (go_at_call_of 38 (Value.slice a1 n1 c1); refine (k1 _ h3).mono ?_; rintro e w5 ⟨rfl, h5⟩
             replace x5 := cell_below h5 x5 (block_lt x5)
             replace h3 := h3.trans (h5.mono h3.size))
          | (go_at_call_of 38 (Value.slice a2 n2 c2); refine (k2 _ h3).mono ?_; rintro e w6 ⟨rfl, h6⟩
             replace h3 := h3.trans (h6.mono h3.size)))
        go_ret
        exact ⟨rfl, h3⟩
      · cases b2
        all_goals
          go_enter Try.func20, Try.ntmps20
          go_wp2_with (first
            | (go_at_call 36; refine (kn _).mono ?_; rintro e w3 ⟨rfl, h3⟩
               have x2 : w3.cell? ⟨w.heap.size, 1, none⟩ = some (.int .i64 cpu) := cell_below h3 (by simp) (by simp)
               have x3 : w3.cell? ⟨w.heap.size, 2, none⟩ = some (.int .i64 mem) := cell_below h3 (by simp) (by simp)
               have x4 : w3.cell? ⟨w.heap.size, 3, none⟩ = some (.slice a1 n1 c1) := cell_below h3 (by simp) (by simp)
               have x5 : w3.cell? ⟨w.heap.size, 4, none⟩ = some (.slice a2 n2 c2) := cell_below h3 (by simp) (by simp)
               replace h3 := hO.trans (h3.mono hO.size))
            | (go_at_call 37; refine (kb _).mono ?_; rintro e w4 ⟨rfl, h4⟩
               replace x4 := cell_below h4 x4 (block_lt x4)
               replace x5 := cell_below h4 x5 (block_lt x5)
               replace h3 := h3.trans (h4.mono h3.size))
            | (go_at_call_of 38 (Value.slice a1 n1 c1); refine (k1 _ h3).mono ?_; rintro e w5 ⟨rfl, h5⟩
               replace x5 := cell_below h5 x5 (block_lt x5)
               replace h3 := h3.trans (h5.mono h3.size))
            | (go_at_call_of 38 (Value.slice a2 n2 c2); refine (k2 _ h3).mono ?_; rintro e w6 ⟨rfl, h6⟩
               replace h3 := h3.trans (h6.mono h3.size)))
          go_ret
          exact ⟨rfl, h3⟩

end Go.Proofs.Ytgcicillmljglaa
