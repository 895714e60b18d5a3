/- The contracts of fresh and Slice of package spec. -/
import Derived.Test.YtlehlbgaboifoabGreatDoorMg22
import Derived.Test.YtlehlbgaboifoabGreatDoorMg09
import Derived.ArgAppend
import Derived.OneCell
namespace Go.Proofs.YtlehlbgaboifoabGreatDoor
open Go.RowKit Go.Maps
attribute [local go_sem ↓] Go.wp_at_zero Go.wp_at_succ

theorem strs_news {w : World} {x : Addr} {ts : List ByteArray} (h : Strs w (some x) ts) : ∀ j u, (ts.map Value.string)[j]? = some u → w.cell? (x.add j) = some u := by
  intro j u hu
  have hj : j < ts.length := by
    rcases Nat.lt_or_ge j ts.length with h' | h'
    · exact h'
    · rw [List.getElem?_eq_none (by simpa using h')] at hu; cases hu
  obtain ⟨x', hx, hc⟩ := h.2 j hj
  cases hx
  rw [hc]
  simp [List.getElem?_eq_getElem hj] at hu ⊢
  exact hu

/-- A row of texts that is new, from block B on. -/
def NewStrs (B : Nat) (w : World) (a : Option Addr) (c : Nat) (ss : List ByteArray) : Prop :=
  Strs w a ss ∧ (∀ x, a = some x → B ≤ x.block ∧ x.block < w.heap.size) ∧ (a = none → c = 0) ∧ ss.length ≤ c

theorem newStrs_of_own {w : World} {base : Nat} {v : Value} {n : Nat} {ss : List ByteArray} (h : w.ownsRow base 9 1 v n (ss.map Value.string)) (hl : ss.length ≤ 1000) : ∃ a cap, v = .slice a ss.length cap ∧ NewStrs base w a cap ss := by
  have hn : ss.length = n := by have := h.1; simpa using this
  rcases h.2 with ⟨rfl, h0⟩ | ⟨g, cap, cur, rfl, hb, hh, hncap, hrest⟩
  · refine ⟨none, 0, by rw [hn, h0], ⟨hl, fun i hi => by omega⟩, (fun x hx => by cases hx), fun _ => rfl, by omega⟩
  · refine ⟨some ⟨g, 0, none⟩, cap, by rw [hn], ⟨hl, fun i hi => ⟨_, rfl, ?_⟩⟩, (fun x hx => by cases hx; exact ⟨hb, (Array.getElem?_eq_some_iff.1 hh).1⟩), (fun h => by cases h), by omega⟩
    refine h.cells (g := g) rfl i _ ?_
    simp [List.getElem?_eq_getElem hi]

set_option maxRecDepth 100000 in
theorem fresh_any (a : Option Addr) (n c : Nat) (ss : List ByteArray) (w : World) (hn : ss.length = n) (hS : Strs w a ss) :
    Calls Tryz.prog 123 #[.slice a n c] w fun e w' => ∃ a' c', e = .returned (.slice a' n c') ∧ NewStrs w.heap.size w' a' c' ss ∧ Below w.heap.size w w' := by
  have hl := hS.1
  obtain ⟨i0, hi, hz0, hz1, hz2⟩ := info_parts info9
  rcases Nat.eq_zero_or_pos n with h0 | h0
  · subst h0
    have : ss = [] := List.length_eq_zero_iff.1 hn
    subst this
    go_enter Tryz.func123, Tryz.ntmps123
    go_wp2
    go_ret
    exact ⟨none, 0, rfl, ⟨strs_nil w, (fun x hx => by cases hx), fun _ => rfl, by simp⟩, Below.refl _ _⟩
  · obtain ⟨x, rfl, -⟩ := hS.2 0 (by omega)
    have i1 : ((n : Int) == 0) = false := by simp; omega
    go_enter Tryz.func123, Tryz.ntmps123
    go_wp2_with (first
      | (at_builtin; refine wpList_append_grows _ rfl _ _ 58 rfl 9 i0 (.string ⟨#[]⟩) 1 16 Tryz.underlying58 hi hz0 hz1 hz2 rfl (by decide) (some x) 0 0 [] rfl (fun h => by cases h) rfl (fun b _ j u h => by simp at h) x n c (ss.map Value.string) rfl (by simp [hn]) (strs_news hS) (strings_oneCell ss) (by omega) (by unfold maxLen; omega) (by omega) ?_; intro v' w1 hown' hgrow)
      | go_in)
    go_ret
    obtain ⟨a', c', rfl, h1⟩ := newStrs_of_own (ss := ss) (by simpa using hown') hl
    exact ⟨a', c', by rw [hn]; rfl, h1, (Below.refl _ _).grown hgrow (Nat.le_refl _) (fun k hk => by cases hk)⟩

theorem strs_grown {w w' : World} {a : Option Addr} {ss : List ByteArray} {row : Option Nat} (h : Strs w a ss) (hg : w.grownBy w' row) (hne : ∀ x, a = some x → some x.block ≠ row) : Strs w' a ss :=
  ⟨h.1, fun i hi => by
    obtain ⟨x, hx, hc⟩ := h.2 i hi
    refine ⟨x, hx, hg.cell hc ?_⟩
    have : (x.add i).block = x.block := by unfold Addr.add; split <;> rfl
    rw [this]
    exact hne x hx⟩

theorem NewStrs.grown {B : Nat} {w w' : World} {a : Option Addr} {c : Nat} {ss : List ByteArray} {row : Option Nat} (h : NewStrs B w a c ss) (hg : w.grownBy w' row) (hne : ∀ x, a = some x → some x.block ≠ row) : NewStrs B w' a c ss :=
  ⟨strs_grown h.1 hg hne, fun x hx => ⟨(h.2.1 x hx).1, Nat.lt_of_lt_of_le (h.2.1 x hx).2 hg.size⟩, h.2.2⟩

theorem NewStrs.later {B : Nat} {w w' : World} {a : Option Addr} {c : Nat} {ss : List ByteArray} (h : NewStrs B w a c ss) (hb : Below w.heap.size w w') : NewStrs B w' a c ss :=
  h.grown (below_grown hb none) (fun x _ e => by cases e)

theorem NewStrs.low {B B' : Nat} {w : World} {a : Option Addr} {c : Nat} {ss : List ByteArray} (h : NewStrs B w a c ss) (hB : B' ≤ B) : NewStrs B' w a c ss :=
  ⟨h.1, fun x hx => ⟨Nat.le_trans hB (h.2.1 x hx).1, (h.2.1 x hx).2⟩, h.2.2⟩

/-- A pod's rows of marks are new, from block B on. -/
def PodT.New (B : Nat) (w : World) (p : PodT) : Prop := NewStrs B w p.pa p.pc p.ps ∧ NewStrs B w p.ba p.bc p.bs
/-- Its rows of marks do not lie in this block. -/
def PodT.Off (b : Option Nat) (p : PodT) : Prop := (∀ x, p.pa = some x → some x.block ≠ b) ∧ (∀ x, p.ba = some x → some x.block ≠ b)
/-- What a pod is, wherever it lies. -/
def PodT.data (p : PodT) : ByteArray × Int × Int × Int × List ByteArray × List ByteArray × Bool := (p.name, p.shard, p.cpu, p.mem, p.ps, p.bs, p.al)

theorem PodT.New.ok {B : Nat} {w : World} {p : PodT} (h : p.New B w) : p.Ok w := ⟨h.1.1, h.2.1⟩
theorem PodT.New.grown {B : Nat} {w w' : World} {p : PodT} {row : Option Nat} (h : p.New B w) (hg : w.grownBy w' row) (ho : p.Off row) : p.New B w' := ⟨h.1.grown hg ho.1, h.2.grown hg ho.2⟩
theorem PodT.New.later {B : Nat} {w w' : World} {p : PodT} (h : p.New B w) (hb : Below w.heap.size w w') : p.New B w' := ⟨h.1.later hb, h.2.later hb⟩

/-- How far the slice has come. -/
def SliceSt (B : Nat) (l : List PodT) (S : Int) (k : Nat) (v : Value) (wr : World) : Prop :=
  ∃ l' : List PodT, l'.length ≤ k ∧ wr.ownsRow B 60 7 v l'.length (flat l') ∧ l'.map PodT.data = ((l.take k).filter fun p => decide (p.shard = S)).map PodT.data ∧ (∀ p ∈ l', p.New B wr) ∧ (∀ p ∈ l', p.Off v.ownBlock)

theorem SliceSt.skip {B : Nat} {l : List PodT} {S : Int} {k : Nat} {v : Value} {w w' : World} (h : SliceSt B l S k v w) (hb : Below w.heap.size w w') (hk : k < l.length) (hs : l[k].shard ≠ S) : SliceSt B l S (k + 1) v w' := by
  obtain ⟨l', h0, h1, h2, h3, h4⟩ := h
  refine ⟨l', by omega, own_keep h1 hb, ?_, fun p hp => (h3 p hp).later hb, h4⟩
  rw [h2, pods_take l k hk, List.filter_append]
  simp [hs]

theorem SliceSt.grown {B : Nat} {l : List PodT} {S : Int} {k : Nat} {v : Value} {w w' : World} {q : Nat} (h : SliceSt B l S k v w) (hg : w.grownBy w' (some q)) (hv : v.ownBlock ≠ some q) (ho : ∀ l' : List PodT, (∀ p ∈ l', p.New B w) → (∀ p ∈ l', p.Off v.ownBlock) → ∀ p ∈ l', p.Off (some q)) : SliceSt B l S k v w' := by
  obtain ⟨l', h0, h1, h2, h3, h4⟩ := h
  exact ⟨l', h0, h1.kept hg (.inr hv), h2, fun p hp => (h3 p hp).grown hg (ho l' h3 h4 p hp), h4⟩

theorem SliceSt.later {B : Nat} {l : List PodT} {S : Int} {k : Nat} {v : Value} {w w' : World} (h : SliceSt B l S k v w) (hb : Below w.heap.size w w') : SliceSt B l S k v w' := by
  obtain ⟨l', h0, h1, h2, h3, h4⟩ := h
  exact ⟨l', h0, own_keep h1 hb, h2, fun p hp => (h3 p hp).later hb, h4⟩

/-- Rows that were there when q was made do not lie in q. -/
theorem off_new {B : Nat} {w : World} {p : PodT} {q : Nat} (h : p.New B w) (hq : w.heap.size ≤ q) : p.Off (some q) :=
  ⟨fun x hx e => by have := (h.1.2.1 x hx).2; cases e; omega, fun x hx e => by have := (h.2.2.1 x hx).2; cases e; omega⟩

/-- The state behind the two stores into the copy's block q, which was made behind the world wr. -/
theorem slice_stores {B : Nat} {l : List PodT} {S : Int} {k : Nat} {v u1 u2 : Value} {wr w9 : World} {q : Nat} (h : SliceSt B l S k v wr) (hb : Below wr.heap.size wr w9) (hq : wr.heap.size = q) :
    SliceSt B l S k v ((w9.setCell ⟨q, 4, none⟩ u1).setCell ⟨q, 5, none⟩ u2) := by
  obtain ⟨l', h0, h1, h2, h3, h4⟩ := h
  have hv : v.ownBlock ≠ some q := fun e => by have := (h1.lt q e).2; omega
  have ho : ∀ p ∈ l', p.Off (some q) := fun p hp => off_new (h3 p hp) (by omega)
  have g1 := grown_set w9 q 4 u1
  have g2 := grown_set (w9.setCell ⟨q, 4, none⟩ u1) q 5 u2
  exact ⟨l', h0, ((own_keep h1 hb).kept g1 (.inr hv)).kept g2 (.inr hv), h2, fun p hp => (((h3 p hp).later hb).grown g1 (ho p hp)).grown g2 (ho p hp), h4⟩

theorem slice_take {B : Nat} {l l' : List PodT} {S : Int} {k : Nat} {v v' : Value} {w w1 : World} {o : Obj} {p : PodT} (h0 : l'.length ≤ k) (h2 : l'.map PodT.data = ((l.take k).filter fun p => decide (p.shard = S)).map PodT.data) (h3 : ∀ p ∈ l', p.New B w) (h4 : ∀ p ∈ l', p.Off v.ownBlock)
    (hk : k < l.length) (hd : l[k].data = p.data) (hs : l[k].shard = S) (hN : p.New B w) (hoff : p.Off v.ownBlock)
    (hown : w1.ownsRow B 60 7 v' (l'.length + 1) (flat l' ++ p.cells)) (hg : (w.alloc o).grownBy w1 v.ownBlock) (hat : v'.ownBlock = v.ownBlock ∨ v'.ownBlock = some (w.alloc o).heap.size) : SliceSt B l S (k + 1) v' w1 := by
  have hA : Below w.heap.size w (w.alloc o) := up (Below.refl _ _) o
  have hall : ∀ r ∈ l' ++ [p], r.New B w ∧ r.Off v.ownBlock := fun r hr => by
    rcases List.mem_append.1 hr with hr | hr
    · exact ⟨h3 r hr, h4 r hr⟩
    · simp only [List.mem_singleton] at hr
      subst hr
      exact ⟨hN, hoff⟩
  refine ⟨l' ++ [p], by simp; omega, ?_, ?_, fun r hr => ((hall r hr).1.later hA).grown hg (hall r hr).2, fun r hr => ?_⟩
  · rw [flat_append, flat_one]
    simpa using hown
  · rw [List.map_append, h2, pods_take l k hk, List.filter_append, List.map_append]
    simp [hs, hd]
  · rcases hat with e | e
    · rw [e]; exact (hall r hr).2
    · rw [e]; exact off_new (hall r hr).1 hA.size

set_option maxRecDepth 100000 in
set_option maxHeartbeats 4000000 in
theorem slice_any (id S : Int) (a : Option Addr) (c n : Nat) (l : List PodT) (w : World) (hl : l.length = n) (hP : Pods w a l) :
    Calls Tryz.prog 88 #[.agg #[.int .i64 id, .slice a n c], .int .i64 S] w fun e w' => ∃ v l', e = .returned v ∧ w'.ownsRow w.heap.size 60 7 v l'.length (flat l') ∧
      l'.map PodT.data = (l.filter fun p => decide (p.shard = S)).map PodT.data ∧ (∀ p ∈ l', p.New w.heap.size w') ∧ (∀ p ∈ l', p.Off v.ownBlock) ∧ Below w.heap.size w w' := by
  have hn := hP.1
  rw [hl] at hn
  obtain ⟨i0, hi, hz0, hz1, hz2⟩ := info_parts infoPod
  go_enter Tryz.func88, Tryz.ntmps88
  go_wp2
  go_loopw [5, 11] (fun v i wr => ∃ k : Nat, k ≤ n ∧ i = .int .i64 k ∧ SliceSt w.heap.size l S k v wr ∧ Below w.heap.size w wr) (fun _ i _ => n - (intOf i).toNat)
  case atStart => exact ⟨0, Nat.zero_le _, rfl, ⟨[], Nat.le_refl _, World.ownsRow_nil _ _ _ _, by simp, by simp, by simp⟩, up (Below.refl _ _) _⟩
  case round =>
    obtain ⟨k, hk, rfl, hst, hbw⟩ := hrel
    have hPr := hP.later hbw
    by_cases hlt : k < n
    · obtain ⟨B, o, rfl, hat, hok⟩ := hPr.2 k _ (List.getElem?_eq_getElem (by omega))
      have hsk := fun w' (h : Below wr.heap.size wr w') (hs : l[k].shard ≠ S) => hst.skip h (by omega) hs
      have htk := pods_take l k (by omega)
      obtain ⟨p, hp⟩ : ∃ p, l[k] = p := ⟨_, rfl⟩
      rw [hp] at hat hok hsk htk
      obtain ⟨s, shard, cpu, mem, pa, pc, ps, ba, bc, bs, al⟩ := p
      obtain ⟨d0, d1, d2, d3, d4, d5, d6⟩ := hat
      obtain ⟨g1, g2⟩ := hok
      simp only at d0 d1 d2 d3 d4 d5 d6 g1 g2 hsk
      by_cases hS : shard = S
      · subst hS
        obtain ⟨n1, hn1⟩ : ∃ n1, ps.length = n1 := ⟨_, rfl⟩
        obtain ⟨n2, hn2⟩ : ∃ n2, bs.length = n2 := ⟨_, rfl⟩
        rw [hn1] at d4
        rw [hn2] at d5
        have kf1 := fun W (h : Below wr.heap.size wr W) => fresh_any pa n1 pc ps W hn1 (g1.later h)
        have kf2 := fun W (h : Below wr.heap.size wr W) => fresh_any ba n2 bc bs W hn2 (g2.later h)
        have hO : Below wr.heap.size wr (wr.alloc (.cells #[.string s, .int .i64 shard, .int .i64 cpu, .int .i64 mem, .slice pa n1 pc, .slice ba n2 bc, .bool al] 60)).drew := Below.drew (up (Below.refl _ _) _)
        clear hsk hP hPr g1 g2
        go_wp2
        go_region_with (first
          | (go_at_call_of 123 (Value.slice pa n1 pc); refine (kf1 _ hO).mono ?_; rintro e w8 ⟨a1, c1, rfl, hN1, hb8⟩
             have x80 : w8.cell? ⟨wr.heap.size, 0, none⟩ = some (.string s) := cell_below hb8 (by simp) (by simp)
             have x81 : w8.cell? ⟨wr.heap.size, 1, none⟩ = some (.int .i64 shard) := cell_below hb8 (by simp) (by simp)
             have x82 : w8.cell? ⟨wr.heap.size, 2, none⟩ = some (.int .i64 cpu) := cell_below hb8 (by simp) (by simp)
             have x83 : w8.cell? ⟨wr.heap.size, 3, none⟩ = some (.int .i64 mem) := cell_below hb8 (by simp) (by simp)
             have x84 : w8.cell? ⟨wr.heap.size, 4, none⟩ = some (.slice pa n1 pc) := cell_below hb8 (by simp) (by simp)
             have x85 : w8.cell? ⟨wr.heap.size, 5, none⟩ = some (.slice ba n2 bc) := cell_below hb8 (by simp) (by simp)
             have x86 : w8.cell? ⟨wr.heap.size, 6, none⟩ = some (.bool al) := cell_below hb8 (by simp) (by simp)
             have z84 : w8.frozen? ⟨wr.heap.size, 4, none⟩ = false := by rw [hb8.frozen (by simp)]; simp
             have z85 : w8.frozen? ⟨wr.heap.size, 5, none⟩ = false := by rw [hb8.frozen (by simp)]; simp
             have hO8 := hO.trans (hb8.mono hO.size))
          | (go_at_call_of 123 (Value.slice ba n2 bc); refine (kf2 _ hO8).mono ?_; rintro e w9 ⟨a2, c2, rfl, hN2, hb9⟩
             have x90 := cell_below hb9 x80 (block_lt x80)
             have x91 := cell_below hb9 x81 (block_lt x81)
             have x92 := cell_below hb9 x82 (block_lt x82)
             have x93 := cell_below hb9 x83 (block_lt x83)
             have x94 := cell_below hb9 x84 (block_lt x84)
             have x95 := cell_below hb9 x85 (block_lt x85)
             have x96 := cell_below hb9 x86 (block_lt x86)
             have z94 := (hb9.frozen (block_lt x84)).trans z84
             have z95 := (hb9.frozen (block_lt x85)).trans z85
             clear x80 x81 x82 x83 x84 x85 x86 z84 z85))
        all_goals
          have hst10 := slice_stores (u1 := .slice a1 n1 c1) (u2 := .slice a2 n2 c2) hst (hO8.trans (hb9.mono hO8.size)) rfl
          have hb10 : Below w.heap.size w ((w9.setCell ⟨wr.heap.size, 4, none⟩ (.slice a1 n1 c1)).setCell ⟨wr.heap.size, 5, none⟩ (.slice a2 n2 c2)) := ((hbw.trans ((hO8.trans (hb9.mono hO8.size)).mono hbw.size)).setCell hbw.size _).setCell hbw.size _
          have hM : PodT.New w.heap.size ((w9.setCell ⟨wr.heap.size, 4, none⟩ (.slice a1 n1 c1)).setCell ⟨wr.heap.size, 5, none⟩ (.slice a2 n2 c2)) ⟨s, shard, cpu, mem, a1, c1, ps, a2, c2, bs, al⟩ ∧ (∀ x, a1 = some x → wr.heap.size < x.block) ∧ (∀ x, a2 = some x → wr.heap.size < x.block) := by
            have e1 : ∀ x, a1 = some x → wr.heap.size < x.block := fun x hx => by have := (hN1.2.1 x hx).1; simp at this; omega
            have e2 : ∀ x, a2 = some x → wr.heap.size < x.block := fun x hx => by have := (hN2.2.1 x hx).1; have := hb8.size; simp at this; omega
            have o1 : ∀ x, a1 = some x → some x.block ≠ some wr.heap.size := fun x hx e => by have := e1 x hx; have := Option.some.inj e; omega
            have o2 : ∀ x, a2 = some x → some x.block ≠ some wr.heap.size := fun x hx e => by have := e2 x hx; have := Option.some.inj e; omega
            have b1 := hbw.size
            have b2 := hO.size
            have b3 := hb8.size
            exact ⟨⟨(((hN1.low (B' := w.heap.size) (by omega)).later hb9).grown (grown_set _ _ _ _) o1).grown (grown_set _ _ _ _) o1, ((hN2.low (B' := w.heap.size) (by omega)).grown (grown_set _ _ _ _) o2).grown (grown_set _ _ _ _) o2⟩, e1, e2⟩
          have y4 : ((w9.setCell ⟨wr.heap.size, 4, none⟩ (.slice a1 n1 c1)).setCell ⟨wr.heap.size, 5, none⟩ (.slice a2 n2 c2)).cell? ⟨wr.heap.size, 4, none⟩ = some (.slice a1 n1 c1) := by
            rw [World.cell?_setCell_other _ _ _ _ (by simp)]; exact World.cell?_setCell_same _ _ _ x94
          have y5 : ((w9.setCell ⟨wr.heap.size, 4, none⟩ (.slice a1 n1 c1)).setCell ⟨wr.heap.size, 5, none⟩ (.slice a2 n2 c2)).cell? ⟨wr.heap.size, 5, none⟩ = some (.slice a2 n2 c2) :=
            World.cell?_setCell_same _ _ _ (by rw [World.cell?_setCell_other _ _ _ _ (by simp)]; exact x95)
          have y0 : ((w9.setCell ⟨wr.heap.size, 4, none⟩ (.slice a1 n1 c1)).setCell ⟨wr.heap.size, 5, none⟩ (.slice a2 n2 c2)).cell? ⟨wr.heap.size, 0, none⟩ = some (.string s) := by
            rw [World.cell?_setCell_other _ _ _ _ (by simp), World.cell?_setCell_other _ _ _ _ (by simp)]; exact x90
          have y1 : ((w9.setCell ⟨wr.heap.size, 4, none⟩ (.slice a1 n1 c1)).setCell ⟨wr.heap.size, 5, none⟩ (.slice a2 n2 c2)).cell? ⟨wr.heap.size, 1, none⟩ = some (.int .i64 shard) := by
            rw [World.cell?_setCell_other _ _ _ _ (by simp), World.cell?_setCell_other _ _ _ _ (by simp)]; exact x91
          have y2 : ((w9.setCell ⟨wr.heap.size, 4, none⟩ (.slice a1 n1 c1)).setCell ⟨wr.heap.size, 5, none⟩ (.slice a2 n2 c2)).cell? ⟨wr.heap.size, 2, none⟩ = some (.int .i64 cpu) := by
            rw [World.cell?_setCell_other _ _ _ _ (by simp), World.cell?_setCell_other _ _ _ _ (by simp)]; exact x92
          have y3 : ((w9.setCell ⟨wr.heap.size, 4, none⟩ (.slice a1 n1 c1)).setCell ⟨wr.heap.size, 5, none⟩ (.slice a2 n2 c2)).cell? ⟨wr.heap.size, 3, none⟩ = some (.int .i64 mem) := by
            rw [World.cell?_setCell_other _ _ _ _ (by simp), World.cell?_setCell_other _ _ _ _ (by simp)]; exact x93
          have y6 : ((w9.setCell ⟨wr.heap.size, 4, none⟩ (.slice a1 n1 c1)).setCell ⟨wr.heap.size, 5, none⟩ (.slice a2 n2 c2)).cell? ⟨wr.heap.size, 6, none⟩ = some (.bool al) := by
            rw [World.cell?_setCell_other _ _ _ _ (by simp), World.cell?_setCell_other _ _ _ _ (by simp)]; exact x96
          obtain ⟨w10, hw10⟩ : ∃ w10, w10 = (w9.setCell ⟨wr.heap.size, 4, none⟩ (.slice a1 n1 c1)).setCell ⟨wr.heap.size, 5, none⟩ (.slice a2 n2 c2) := ⟨_, rfl⟩
          rw [← hw10] at hst10 hb10 hM y0 y1 y2 y3 y4 y5 y6 ⊢
          obtain ⟨l0, -, hr0, -⟩ := hst
          have hoff : PodT.Off u5.ownBlock ⟨s, shard, cpu, mem, a1, c1, ps, a2, c2, bs, al⟩ := ⟨fun x hx e => by have := hM.2.1 x hx; have := (hr0.lt _ e.symm).2; omega, fun x hx e => by have := hM.2.2 x hx; have := (hr0.lt _ e.symm).2; omega⟩
          obtain ⟨l', s0, s1, s2, s3, s4⟩ := hst10
          have hcl : Hid ((PodT.mk s shard cpu mem a1 c1 ps a2 c2 bs al).cells = [.string s, .int .i64 shard, .int .i64 cpu, .int .i64 mem, .slice a1 n1 c1, .slice a2 n2 c2, .bool al]) := by
            show _ = _
            rw [← hn1, ← hn2]; rfl
          clear hw10 x90 x91 x92 x93 x94 x95 x96 z94 z95 hN1 hN2 hb8 hb9 hO hO8 hr0 kf1 kf2 d0 d1 d2 d3 d4 d5 d6 hbw hn1 hn2
          go_wp2_with (first
            | (at_builtin; refine wpList_append_own_at _ rfl _ _ 37 rfl w.heap.size 60 i0 _ 7 96 Tryz.underlying37 hi hz0 hz1 hz2 rfl (by decide) _ _ _ rfl (s1.alloc _) ⟨_, 0, none⟩ 1 1 [.string s, .int .i64 shard, .int .i64 cpu, .int .i64 mem, .slice a1 n1 c1, .slice a2 n2 c2, .bool al] rfl rfl (cells_new _ _ _ _ rfl) (by intro u hu; simp only [List.mem_cons, List.not_mem_nil, or_false] at hu; rcases hu with rfl | rfl | rfl | rfl | rfl | rfl | rfl <;> rfl) (by unfold maxLen; omega) (by omega) (by simp; have := hb10.size; omega) ?_; intro v' w11 hown' hgrow hnil hat)
            | go_in)
          go_roundw
          case rel =>
            refine ⟨k + 1, hlt, by go_num, slice_take s0 s2 s3 s4 (by omega) (by rw [hp]; rfl) (by rw [hp]) hM.1 hoff (by rw [hcl.out]; exact hown') hgrow hat, ?_⟩
            exact (up hb10 _).grown hgrow (up hb10 _).size (fun j hj => (s1.lt j hj).1)
          case measure => simp [intOf]; omega
      · have i1 : (shard == S) = false := by simp [hS]
        clear hP hPr g1 g2 hst htk
        go_wp2
        go_roundw
        case rel => exact ⟨k + 1, hlt, by go_num, hsk _ (up (Below.refl _ _) _) hS, up hbw _⟩
        case measure => simp [intOf]; omega
    · have e1 : k = n := by omega
      obtain ⟨l', h0, h1, h2, h3, h4⟩ := hst
      rw [e1, List.take_of_length_le (by omega)] at h2
      clear hP hPr
      go_wp2
      go_ret
      exact ⟨_, l', rfl, h1, h2, h3, h4, hbw⟩

end Go.Proofs.YtlehlbgaboifoabGreatDoor
