/- The contract of the chapter's own Copy: pods by themselves. -/
import Derived.Test.YtgcicillmljglaaL
import Derived.Test.YtgcicillmljglaaSP
import Derived.Laws.OwnMore
namespace Go.Proofs.Ytgcicillmljglaa
open Go.RowKit Go.Maps
attribute [local go_sem ↓] Go.wp_at_zero Go.wp_at_succ
set_option linter.unusedSimpArgs false
set_option linter.unusedVariables false

theorem run_append_none {P : Program} {w : World} (base : Nat) (t ty e : TypeId) (i : TypeInfo) (size : Nat) (ht : P.underlying t = some (.slice e)) (hi : P.info? e = some i)
    (v : Value) (n c : Nat) (xs : List Value) (hown : w.ownsRow base e size v n xs) :
    (Builtin.append_ #[t, t] ty #[v, .slice none 0 c]).run P w = .ok v w := by
  rcases hown.2 with ⟨rfl, rfl⟩ | ⟨g, cap, cur, rfl, _, _, hnc, _⟩
  · simp [Builtin.append_, run_underlying ht, sizeOf, typeInfo, hi, Builtin.lenOf, Builtin.firstCells]
  · simp [Builtin.append_, run_underlying ht, sizeOf, typeInfo, hi, Builtin.lenOf, Builtin.firstCells, hnc, storeCells]

/-- A row of texts, whatever it lies in, appended to a row of the call's own. -/
theorem append_any {w : World} {ops : Array Oper} {rest : List Oper} {o : Oper} {a : Act} {Q : Exit → Act → World → Prop} (hgd : o.guard = none) (s x : Operand)
    (ho : o.op = .call { callee := .builtin .append, args := #[s, x], argTypes := #[24, 24] })
    (base : Nat) (v : Value) (n : Nat) (xs : List ByteArray) (hs : a.eval s = v) (hown : w.ownsRow base 9 1 v n (xs.map Value.string))
    (av : Option Addr) (m c : Nat) (ts : List ByteArray) (hx : a.eval x = .slice av m c) (hS : Strs w av ts) (hm : ts.length = m) (hl : xs.length ≤ 1000) (hbase : base ≤ w.heap.size)
    (h : ∀ v' w', w'.ownsRow base 9 1 v' (n + m) ((xs ++ ts).map Value.string) → w.grownBy w' v.ownBlock → wpList Try.prog ops Q rest (a.put o.dst v') w') : wpList Try.prog ops Q (o :: rest) a w := by
  obtain ⟨i0, hi, hz0, hz1, hz2⟩ := info_parts info9
  have hn : xs.length = n := by have := hown.1; simpa using this
  have h1000 := hS.1
  cases av with
  | none =>
    have hm0 : m = 0 := by
      rcases Nat.eq_zero_or_pos m with h0 | h0
      · exact h0
      · obtain ⟨x, hx, _⟩ := hS.2 0 (by omega)
        cases hx
    have ht : ts = [] := List.length_eq_zero_iff.1 (by omega)
    subst hm0
    subst ht
    refine wpList_plain hgd fun K hK => ?_
    have hrun := run_append_none (P := Try.prog) (w := w) base 24 o.type 9 i0 1 Try.underlying24 hi v n c (xs.map Value.string) hown
    unfold Oper.wp
    simp [execOp, ho, resolve, invoke, builtin, hs, hx, hrun, Result.andThen]
    exact hK _ _ (h v w (by simpa using hown) (World.grownBy.refl _ _))
  | some ad =>
    refine wpList_append_own w hgd s x 24 ho base 9 i0 (.string ⟨#[]⟩) 1 16 Try.underlying24 hi hz0 hz1 hz2 rfl (by decide) v n (xs.map Value.string) hs hown ad m c (ts.map Value.string) hx (by simp [hm]) (strs_news hS) (strings_oneCell ts) (by unfold maxLen; omega) (by omega) hbase ?_
    intro v' w' h1 h2 _
    exact h v' w' (by rw [List.map_append]; exact h1) h2

theorem own_empty {w : World} {base g : Nat} (h : w.heap[g]? = some (.cells #[] 9 (0, 0))) (hb : base ≤ g) : w.ownsRow base 9 1 (.slice (some ⟨g, 0, none⟩) 0 0) 0 (([] : List ByteArray).map Value.string) :=
  ⟨rfl, .inr ⟨g, 0, #[], rfl, hb, h, Nat.le_refl _, Nat.zero_le _, rfl, rfl⟩⟩

/-- How far the copy has come. -/
def CopySt (B : Nat) (l : List PodT) (k : Nat) (v : Value) (wr : World) : Prop :=
  ∃ l' : List PodT, l'.length = k ∧ wr.ownsRow B 26 7 v l'.length (flat l') ∧ l'.map PodT.data = (l.take k).map PodT.data ∧ (∀ p ∈ l', p.New B wr) ∧ (∀ p ∈ l', p.Off v.ownBlock)

theorem copy_take {B : Nat} {l l' : List PodT} {k : Nat} {v v' : Value} {w w1 : World} {o : Obj} {p : PodT} (h0 : l'.length = k) (h2 : l'.map PodT.data = (l.take k).map PodT.data) (h3 : ∀ p ∈ l', p.New B w) (h4 : ∀ p ∈ l', p.Off v.ownBlock)
    (hk : k < l.length) (hd : l[k].data = p.data) (hN : p.New B w) (hoff : p.Off v.ownBlock)
    (hown : w1.ownsRow B 26 7 v' (l'.length + 1) (flat l' ++ p.cells)) (hg : (w.alloc o).grownBy w1 v.ownBlock) (hat : v'.ownBlock = v.ownBlock ∨ v'.ownBlock = some (w.alloc o).heap.size) : CopySt B l (k + 1) v' w1 := by
  have hA : Below w.heap.size w (w.alloc o) := up (Below.refl _ _) o
  have hall : ∀ r ∈ l' ++ [p], r.New B w ∧ r.Off v.ownBlock := fun r hr => by
    rcases List.mem_append.1 hr with hr | hr
    · exact ⟨h3 r hr, h4 r hr⟩
    · simp only [List.mem_singleton] at hr
      subst hr
      exact ⟨hN, hoff⟩
  refine ⟨l' ++ [p], by simp; omega, ?_, ?_, fun r hr => ((hall r hr).1.later hA).grown hg (hall r hr).2, fun r hr => ?_⟩
  · rw [flat_append, flat_one]
    simpa using hown
  · rw [List.map_append, h2, pods_take l k hk, List.map_append]
    simp [hd]
  · rcases hat with e | e
    · rw [e]; exact (hall r hr).2
    · rw [e]; exact off_new (hall r hr).1 hA.size

theorem NewStrs.puts {B : Nat} {w : World} {a : Option Addr} {c : Nat} {ss : List ByteArray} (h : NewStrs B w a c ss) {b : Nat} (hne : ∀ x, a = some x → x.block ≠ b) (i : Nat) (u : Value) : NewStrs B (w.setCell ⟨b, i, none⟩ u) a c ss :=
  h.grown (grown_set w b i u) (fun x hx e => hne x hx (Option.some.inj e))

set_option maxRecDepth 100000 in
set_option maxHeartbeats 4000000 in
theorem rCopy_any (a : Option Addr) (c n : Nat) (l : List PodT) (w : World) (hl : l.length = n) (hP : Pods w a l) :
    Calls Try.prog 46 #[.slice a n c] w fun e w' => ∃ v, e = .returned v ∧ CopySt w.heap.size l n v w' ∧ Below w.heap.size w w' := by
  have hn := hP.1
  rw [hl] at hn
  obtain ⟨i0, hi, hz0, hz1, hz2⟩ := info_parts infoPod
  go_enter Try.func46, Try.ntmps46
  go_wp2
  go_loopw [3, 4] (fun v i wr => ∃ k : Nat, k ≤ n ∧ i = .int .i64 k ∧ CopySt w.heap.size l k v wr ∧ Below w.heap.size w wr) (fun _ i _ => n - (intOf i).toNat)
  case atStart => exact ⟨0, Nat.zero_le _, rfl, ⟨[], rfl, World.ownsRow_nil _ _ _ _, by simp, by simp, by simp⟩, Below.refl _ _⟩
  case round =>
    obtain ⟨k, hk, rfl, hst, hbw⟩ := hrel
    have hPr := hP.later hbw
    by_cases hlt : k < n
    · obtain ⟨PB, po, rfl, hat, hok⟩ := hPr.2 k _ (List.getElem?_eq_getElem (by omega))
      obtain ⟨p, hp⟩ : ∃ p, l[k]'(by omega) = p := ⟨_, rfl⟩
      rw [hp] at hat hok
      obtain ⟨s, shard, cpu, mem, pa, pc, ps, ba, bc, bs, al⟩ := p
      obtain ⟨d0, d1, d2, d3, d4, d5, d6⟩ := hat
      obtain ⟨g1, g2⟩ := hok
      simp only at d0 d1 d2 d3 d4 d5 d6 g1 g2
      obtain ⟨n1, hn1⟩ : ∃ n1, ps.length = n1 := ⟨_, rfl⟩
      obtain ⟨n2, hn2⟩ : ∃ n2, bs.length = n2 := ⟨_, rfl⟩
      rw [hn1] at d4
      rw [hn2] at d5
      have i1 : (k : Int) < n := by omega
      have lPB : PB < wr.heap.size := block_lt d0
      have mPB : ∀ j, PB < wr.heap.size + j := fun j => by omega
      obtain ⟨W0, hW0⟩ : ∃ W, W = wr := ⟨_, rfl⟩
      subst hW0
      clear hP hPr
      have q1 := Box.new W0 #[.string s, .int .i64 shard, .int .i64 cpu, .int .i64 mem, .slice pa n1 pc, .slice ba n2 bc, .bool al] 26 rfl
      have b1 : Below W0.heap.size W0 (W0.alloc (.cells #[.string s, .int .i64 shard, .int .i64 cpu, .int .i64 mem, .slice pa n1 pc, .slice ba n2 bc, .bool al] 26)) := up (Below.refl _ _) _
      go_upto_region 6 with fail
      generalize W0.alloc (.cells #[.string s, .int .i64 shard, .int .i64 cpu, .int .i64 mem, .slice pa n1 pc, .slice ba n2 bc, .bool al] 26) = w1 at *
      obtain ⟨Q, hQ⟩ : ∃ x, W0.heap.size = x := ⟨_, rfl⟩
      have hQ1 : Q < w1.heap.size := by have := q1.lt; omega
      have c4 := cell_below b1 d4 lPB
      have c5 := cell_below b1 d5 lPB
      have lP1 : PB < w1.heap.size := by omega
      have mP1 : ∀ j, PB < w1.heap.size + j := fun j => by omega
      simp only [hQ] at q1 lPB ⊢
      go_upto_region 7 with (first
        | (at_builtin
           refine append_any rfl _ _ rfl (Q + 1) _ 0 [] rfl (own_empty (heap_alloc_new _ _) hQ1) pa n1 pc ps rfl ((g1.later b1).later (up (Below.refl _ _) _)) hn1 (by simp) (by simp; omega) ?_
           intro v1 w2 hown1 hgrow1
           rw [Nat.zero_add, List.nil_append] at hown1
           obtain ⟨a1, e1, rfl, hN1⟩ := newStrs_of_own (ss := ps) hown1 (by have := g1.1; omega)
           rw [hn1]
           have q2 := (q1.up _).grown hgrow1 (show some Q ≠ some w1.heap.size from fun e => by have := Option.some.inj e; omega)
           have x4 := q2.cells7.2.2.2.2.1
           have z4 := q2.frozen 4
           have b2 : Below W0.heap.size W0 w2 := (up b1 _).grown hgrow1 (up b1 _).size (fun j hj => by have h9 : some w1.heap.size = some j := hj; have := Option.some.inj h9; omega))
        | go_in)
      have q3 : Box (w2.setCell ⟨Q, 4, none⟩ (.slice a1 n1 e1)) Q #[.string s, .int .i64 shard, .int .i64 cpu, .int .i64 mem, .slice a1 n1 e1, .slice ba n2 bc, .bool al] 26 := q2.set 4 (.slice a1 n1 e1)
      have b3 : Below W0.heap.size W0 (w2.setCell ⟨Q, 4, none⟩ (.slice a1 n1 e1)) := b2.setCell (p := ⟨Q, 4, none⟩) (by simp; omega) _
      have hN3 := hN1.puts (b := Q) (fun x hx e => by have := (hN1.2.1 x hx).1; omega) 4 (.slice a1 n1 e1)
      have l3 : w2.heap.size = (w2.setCell ⟨Q, 4, none⟩ (.slice a1 n1 e1)).heap.size := by simp
      have hlt1 : ∀ x, a1 = some x → x.block < w2.heap.size := fun x hx => (hN1.2.1 x hx).2
      have hs12 : w1.heap.size < w2.heap.size := by have := hgrow1.size; simp at this; omega
      clear q2 x4 z4 b2 hown1 hgrow1 hN1 q1 c4
      generalize w2.setCell ⟨Q, 4, none⟩ (.slice a1 n1 e1) = w3 at *
      have d53 := cell_below b3 d5 (show PB < W0.heap.size by omega)
      have lP3 : PB < w3.heap.size := by omega
      have mP3 : ∀ j, PB < w3.heap.size + j := fun j => by omega
      clear c5
      go_upto_region 8 with (first
        | (at_builtin
           refine append_any rfl _ _ rfl (Q + 1) _ 0 [] rfl (own_empty (heap_alloc_new _ _) (show Q + 1 ≤ w3.heap.size by omega)) ba n2 bc bs rfl ((g2.later b3).later (up (Below.refl _ _) _)) hn2 (by simp) (by simp; omega) ?_
           intro v2 w4 hown2 hgrow2
           rw [Nat.zero_add, List.nil_append] at hown2
           obtain ⟨a2, e2, rfl, hN2⟩ := newStrs_of_own (ss := bs) hown2 (by have := g2.1; omega)
           rw [hn2]
           have q4 := (q3.up _).grown hgrow2 (show some Q ≠ some w3.heap.size from fun e => by have := Option.some.inj e; omega)
           have x5 := q4.cells7.2.2.2.2.2.1
           have z5 := q4.frozen 5
           have b4 : Below W0.heap.size W0 w4 := (up b3 _).grown hgrow2 (up b3 _).size (fun j hj => by have h9 : some w3.heap.size = some j := hj; have := Option.some.inj h9; omega)
           have hN4 := (hN3.later (up (Below.refl _ _) _)).grown hgrow2 (fun x hx e => by have := hlt1 x hx; have h9 : some x.block = some w3.heap.size := e; have := Option.some.inj h9; omega))
        | go_in)
      have q5 : Box (w4.setCell ⟨Q, 5, none⟩ (.slice a2 n2 e2)) Q #[.string s, .int .i64 shard, .int .i64 cpu, .int .i64 mem, .slice a1 n1 e1, .slice a2 n2 e2, .bool al] 26 := q4.set 5 (.slice a2 n2 e2)
      have b5 : Below W0.heap.size W0 (w4.setCell ⟨Q, 5, none⟩ (.slice a2 n2 e2)) := b4.setCell (p := ⟨Q, 5, none⟩) (by simp; omega) _
      have hN5 := hN4.puts (b := Q) (fun x hx e => by have := (hN4.2.1 x hx).1; omega) 5 (.slice a2 n2 e2)
      have hN6 := hN2.puts (b := Q) (fun x hx e => by have := (hN2.2.1 x hx).1; omega) 5 (.slice a2 n2 e2)
      clear q4 x5 z5 b4 hown2 hgrow2 hN2 hN4 q3 b3 hN3 d53
      generalize w4.setCell ⟨Q, 5, none⟩ (.slice a2 n2 e2) = w5 at *
      obtain ⟨y0, y1, y2, y3, y4, y5, y6⟩ := q5.cells7
      obtain ⟨l', s0, s1, s2, s3, s4⟩ := hst
      have hQw : w.heap.size ≤ Q := by have := hbw.size; omega
      have s1' := own_keep s1 b5
      have s3' := fun p hp => (s3 p hp).later b5
      have hoff : PodT.Off u3.ownBlock ⟨s, shard, cpu, mem, a1, e1, ps, a2, e2, bs, al⟩ := ⟨fun x hx e => by have := (hN5.2.1 x hx).1; have := (s1.lt _ e.symm).2; omega, fun x hx e => by have := (hN6.2.1 x hx).1; have := (s1.lt _ e.symm).2; omega⟩
      have hM : PodT.New w.heap.size w5 ⟨s, shard, cpu, mem, a1, e1, ps, a2, e2, bs, al⟩ := ⟨hN5.low (by omega), hN6.low (by omega)⟩
      have hcl : Hid ((PodT.mk s shard cpu mem a1 e1 ps a2 e2 bs al).cells = [.string s, .int .i64 shard, .int .i64 cpu, .int .i64 mem, .slice a1 n1 e1, .slice a2 n2 e2, .bool al]) := by
        show _ = _
        rw [← hn1, ← hn2]; rfl
      have hb5s := b5.size
      clear hN5 hN6 q5
      go_wp2_with (first
        | (at_builtin; refine wpList_append_own_at _ rfl _ _ 45 rfl w.heap.size 26 i0 _ 7 96 Try.underlying45 hi hz0 hz1 hz2 rfl (by decide) _ _ _ rfl (s1'.alloc _) ⟨_, 0, none⟩ 1 1 [.string s, .int .i64 shard, .int .i64 cpu, .int .i64 mem, .slice a1 n1 e1, .slice a2 n2 e2, .bool al] rfl rfl (cells_new _ _ _ _ rfl) (by intro u hu; simp only [List.mem_cons, List.not_mem_nil, or_false] at hu; rcases hu with rfl | rfl | rfl | rfl | rfl | rfl | rfl <;> rfl) (by unfold maxLen; omega) (by omega) (by simp; omega) ?_; intro v' w11 hown' hgrow hnil hat)
        | go_in)
      go_roundw
      case rel =>
        refine ⟨k + 1, hlt, by go_num, copy_take s0 s2 s3' s4 (by omega) (by rw [hp]; rfl) hM hoff (by rw [hcl.out]; exact hown') hgrow hat, ?_⟩
        have hb6 := fin b5 hbw
        exact (up hb6 _).grown hgrow (up hb6 _).size (fun j hj => (s1.lt j hj).1)
      case measure => simp [intOf]; omega
    · obtain rfl : k = n := by omega
      clear hP hPr
      go_wp2
      go_ret
      exact ⟨_, rfl, hst, hbw⟩

end Go.Proofs.Ytgcicillmljglaa
