/- The contract of the chapter's own Slice. -/
import Derived.Test.YtgcicillmljglaaCP
namespace Go.Proofs.Ytgcicillmljglaa
open Go.RowKit Go.Maps
attribute [local go_sem ↓] Go.wp_at_zero Go.wp_at_succ
set_option linter.unusedSimpArgs false
set_option linter.unusedVariables false

theorem own_low' {w : World} {base base' : Nat} {e : TypeId} {size : Nat} {v : Value} {n : Nat} {xs : List Value} (h : w.ownsRow base e size v n xs) (hb : base' ≤ base) : w.ownsRow base' e size v n xs := by
  refine ⟨h.1, ?_⟩
  rcases h.2 with h1 | ⟨g, cap, cur, h1, h2, h3⟩
  · exact .inl h1
  · exact .inr ⟨g, cap, cur, h1, by omega, h3⟩

/-- The pods of a shard. -/
def inShard (S : Int) (l : List PodT) : List PodT := l.filter fun p => decide (p.shard = S)

theorem shard_take (S : Int) (l : List PodT) (k : Nat) (h : k < l.length) : inShard S (l.take (k + 1)) = inShard S (l.take k) ++ if l[k].shard = S then [l[k]] else [] := by
  unfold inShard
  rw [pods_take l k h, List.filter_append]
  by_cases e : l[k].shard = S <;> simp [e]

set_option maxRecDepth 100000 in
set_option maxHeartbeats 4000000 in
theorem rSlice_any (id S : Int) (a : Option Addr) (c n : Nat) (l : List PodT) (w : World) (hl : l.length = n) (hP : Pods w a l) :
    Calls Try.prog 30 #[.agg #[.int .i64 id, .slice a n c], .int .i64 S] w fun e w' => ∃ v l', e = .returned v ∧ w'.ownsRow w.heap.size 26 7 v l'.length (flat l') ∧
      l'.map PodT.data = (inShard S l).map PodT.data ∧ (∀ p ∈ l', p.New w.heap.size w') ∧ (∀ p ∈ l', p.Off v.ownBlock) ∧ Below w.heap.size w w' := by
  have hn := hP.1
  rw [hl] at hn
  obtain ⟨i0, hi, hz0, hz1, hz2⟩ := info_parts infoPod
  go_enter Try.func30, Try.ntmps30
  go_wp2
  go_loopw [5, 6] (fun v i wr => ∃ k : Nat, k ≤ n ∧ i = .int .i64 k ∧ wr.ownsRow (w.heap.size + 1) 26 7 v (inShard S (l.take k)).length (flat (inShard S (l.take k))) ∧ Below w.heap.size w wr ∧ GBox wr w.heap.size id (.slice a n c)) (fun _ i _ => n - (intOf i).toNat)
  case atStart => exact ⟨0, Nat.zero_le _, rfl, World.ownsRow_nil _ _ _ _, up (Below.refl _ _) _, GBox.new w id _⟩
  case round =>
    obtain ⟨k, hk, rfl, hrow, hbw, hG⟩ := hrel
    have hPr := hP.later hbw
    have gc1 := hG.cell1
    by_cases hlt : k < n
    · obtain ⟨PB, po, rfl, hat, hok⟩ := hPr.2 k _ (List.getElem?_eq_getElem (by omega))
      have hst := shard_take S l k (by omega)
      have hlk : (inShard S (l.take k)).length ≤ k := by unfold inShard; exact Nat.le_trans (List.length_filter_le _ _) (by simp; omega)
      obtain ⟨p, hp⟩ : ∃ p, l[k]'(by omega) = p := ⟨_, rfl⟩
      rw [hp] at hat hok hst
      obtain ⟨l1, hl1⟩ : ∃ x, inShard S (l.take k) = x := ⟨_, rfl⟩
      rw [hl1] at hrow hst hlk
      have HST : Hid (inShard S (l.take (k + 1)) = l1 ++ if p.shard = S then [p] else []) := hst
      clear hst
      obtain ⟨s, shard, cpu, mem, pa, pc, ps, ba, bc, bs, al⟩ := p
      obtain ⟨d0, d1, d2, d3, d4, d5, d6⟩ := hat
      simp only at d0 d1 d2 d3 d4 d5 d6
      obtain ⟨n1, hn1⟩ : ∃ n1, ps.length = n1 := ⟨_, rfl⟩
      obtain ⟨n2, hn2⟩ : ∃ n2, bs.length = n2 := ⟨_, rfl⟩
      rw [hn1] at d4
      rw [hn2] at d5
      have i1 : (k : Int) < n := by omega
      have hws := hG.lt
      by_cases hS : shard = S
      · have i2 : (shard == S) = true := by simp [hS]
        have hcl : Hid ((PodT.mk s shard cpu mem pa pc ps ba bc bs al).cells = [.string s, .int .i64 shard, .int .i64 cpu, .int .i64 mem, .slice pa n1 pc, .slice ba n2 bc, .bool al]) := by
          show _ = _
          rw [← hn1, ← hn2]; rfl
        have H2 : Hid (inShard S (l.take (k + 1)) = l1 ++ [⟨s, shard, cpu, mem, pa, pc, ps, ba, bc, bs, al⟩]) := by
          show _ = _
          rw [HST.out]; simp [hS]
        clear hP hPr HST hS hl1 hp hok
        go_wp2_with (first
          | (at_builtin; refine wpList_append_own_at _ rfl _ _ 45 rfl (w.heap.size + 1) 26 i0 _ 7 96 Try.underlying45 hi hz0 hz1 hz2 rfl (by decide) _ _ _ rfl (hrow.alloc _) ⟨_, 0, none⟩ 1 1 [.string s, .int .i64 shard, .int .i64 cpu, .int .i64 mem, .slice pa n1 pc, .slice ba n2 bc, .bool al] rfl rfl (cells_new _ _ _ _ rfl) (by intro u hu; simp only [List.mem_cons, List.not_mem_nil, or_false] at hu; rcases hu with rfl | rfl | rfl | rfl | rfl | rfl | rfl <;> rfl) (by unfold maxLen; omega) (by omega) (by simp; omega) ?_; intro v' w11 hown' hgrow hnil hat)
          | go_in)
        go_roundw
        case rel =>
          refine ⟨k + 1, hlt, by go_num, ?_, (up hbw _).grown hgrow (up hbw _).size (fun j hj => by have := (hrow.lt j hj).1; omega), ?_⟩
          · rw [H2.out, flat_append, flat_one, hcl.out]
            simpa using hown'
          · exact (hG.later (up (Below.refl _ _) _)).grown hgrow (fun e => by have := (hrow.lt _ e.symm).1; omega)
        case measure => simp [intOf]; omega
      · have i2 : (shard == S) = false := by simp [hS]
        have H2 : Hid (inShard S (l.take (k + 1)) = l1) := by
          show _ = _
          rw [HST.out]; simp [hS]
        clear hP hPr HST hS hl1 hp hok
        go_wp2
        go_roundw
        case rel => exact ⟨k + 1, hlt, by go_num, by rw [H2.out]; exact hrow, hbw, hG⟩
        case measure => simp [intOf]; omega
    · obtain rfl : k = n := by omega
      have hlk : (inShard S (l.take k)).length ≤ k := by unfold inShard; exact Nat.le_trans (List.length_filter_le _ _) (by simp; omega)
      rw [← hl, List.take_length] at hrow hlk
      obtain ⟨a', c', rfl, hle, -, hPods, -, -⟩ := pods_of_own hrow (fun p hp => by
        obtain ⟨i, hi', hpi⟩ := List.mem_iff_getElem.1 (List.mem_filter.1 hp).1
        obtain ⟨_, _, _, _, h9⟩ := hPr.2 i p (by rw [← hpi]; exact List.getElem?_eq_getElem hi')
        exact h9) (by omega)
      obtain ⟨m, hm⟩ : ∃ x, (inShard S l).length = x := ⟨_, rfl⟩
      have kc := rCopy_any a' c' m (inShard S l) wr hm hPods
      rw [hm]
      clear hP hPr hrow
      go_wp2_with (first
        | (go_at_call 46; refine kc.mono ?_; rintro e w5 ⟨v, rfl, ⟨l', h0, h1, h2, h3, h4⟩, hb5⟩))
      go_ret
      rw [← hm, List.take_length] at h2
      exact ⟨v, l', rfl, own_low' h1 hbw.size, h2, fun p hp => ⟨(h3 p hp).1.low hbw.size, (h3 p hp).2.low hbw.size⟩, h4, fin hb5 hbw⟩

end Go.Proofs.Ytgcicillmljglaa
