/- A gang in memory of its own: copied. -/
import Derived.Test.YtlehlbgaboifoabGreatDoorMg20
import Derived.Test.YtlehlbgaboifoabGreatDoorMg23
import Derived.Test.YtlehlbgaboifoabGreatDoorMg22
import Derived.Test.YtlehlbgaboifoabGreatDoorMg24
import Derived.Deep.DeepCutAuto
namespace Go.Proofs.YtlehlbgaboifoabGreatDoor
open Go.RowKit Go.Maps
set_option linter.unusedSimpArgs false
set_option linter.unusedVariables false

theorem step_call2 {w : World} {ops : Array Oper} {o : Oper} {a : Act} {K : Act → World → Prop} {Q : Exit → Act → World → Prop} {E : Prop} (hgd : o.guard = none) (f : FuncId) (u1 u2 : Tmp) (t1 t2 : TypeId)
    (ho : o.op = .call { callee := .value (.func f), args := #[.tmp u1, .tmp u2], argTypes := #[t1, t2] }) (v1 v2 : Value) (hs1 : a.tmps[u1]?.getD undef = v1) (hs2 : a.tmps[u2]?.getD undef = v2) (hf : ∀ args w, (callFunc f args).run Tryz.prog w = .ok (.enter f args) w)
    (h : Calls Tryz.prog f #[v1, v2] w fun e w' => ∃ u, e = .returned u ∧ K (a.put o.dst u) w') :
    if Region.wanted o (yielded ops a.tmps) = true then Oper.wp Tryz.prog o a w K Q else E := by
  have hw : Region.wanted o (yielded ops a.tmps) = true := by simp [Region.wanted, hgd]
  rw [if_pos hw]
  obtain ⟨dst, op, ty, pos, after, guard⟩ := o
  simp only at ho
  subst ho
  have e : (execOp a.eval ⟨dst, .call { callee := .value (.func f), args := #[.tmp u1, .tmp u2], argTypes := #[t1, t2] }, ty, pos, after, guard⟩).run Tryz.prog w = .ok (.enter f #[v1, v2]) w := by
    simp [go_sem, hs1, hs2, hf]
  unfold Oper.wp
  rw [e]
  simp only [Oper.upon]
  exact h.mono fun e w' ⟨u, he, hk⟩ => by subst he; exact hk

theorem step_append_new {ops : Array Oper} {o : Oper} {A : Act} {w : World} {K : Act → World → Prop} {Q : Exit → Act → World → Prop} {E : Prop} (hgd : o.guard = none) (s x : Operand) (t : TypeId)
    (ho : o.op = .call { callee := .builtin .append, args := #[s, x], argTypes := #[t, t] })
    (base : Nat) (e : TypeId) (i : TypeInfo) (z : Value) (size bytes : Nat) (ht : Tryz.prog.underlying t = some (.slice e)) (hi : Tryz.prog.info? e = some i) (hz : i.zero = some z)
    (hsize : i.size = size) (hby : i.bytes = bytes) (hzs : z.cells.size = size) (hsz : 0 < size)
    (v : Value) (n : Nat) (xs : List Value) (hs : A.eval s = v) (hown : w.ownsRow base e size v n xs)
    (ad : Addr) (m c : Nat) (news : List Value) (hx : A.eval x = .slice (some ad) m c) (hl : news.length = m * size) (hnews : ∀ j u, news[j]? = some u → w.cell? (ad.add j) = some u) (h1 : ∀ u ∈ news, u.oneCell' = true)
    (h63 : n + m ≤ maxLen) (hbytes : (n + m) * bytes ≤ 140737488355328) (hbase : base ≤ w.heap.size)
    (h : ∀ v' w', w'.ownsRow base e size v' (n + m) (xs ++ news) → w.grownBy w' v.ownBlock → NewOr w v v' → K (A.put o.dst v') w') :
    if Region.wanted o (yielded ops A.tmps) = true then Oper.wp Tryz.prog o A w K Q else E := by
  have hw : Region.wanted o (yielded ops A.tmps) = true := by simp [Region.wanted, hgd]
  rw [if_pos hw]
  obtain ⟨v', w', hr, h2, h3, h4⟩ := append_new base t o.type e i z size bytes ht hi hz hsize hby hzs hsz v n xs hown ad m c news hl hnews h1 h63 hbytes hbase
  unfold Oper.wp execOp
  simp only [ho, resolve, invoke, builtin, Sem.run_bind, Sem.run_pure, Result.andThen_ok, List.map_toArray, List.map_cons, List.map_nil, hs, hx, hr]
  exact h v' w' h2 h3 h4

theorem cf_slice (args : Array Value) (w : World) : (callFunc 88 args).run Tryz.prog w = .ok (.enter 88 args) w := by kernel_rfl

/-- The data of a gang's pods, shard by shard. -/
def copD (l : List PodT) (zs : List Int) : List (ByteArray × Int × Int × Int × List ByteArray × List ByteArray × Bool) := zs.flatMap fun z => (l.filter fun p => decide (p.shard = z)).map PodT.data
/-- So many shards are copied. -/
def CopSt (B : Nat) (l : List PodT) (zs : List Int) (v : Value) (wr : World) : Prop :=
  ∃ l' : List PodT, wr.ownsRow B 60 7 v l'.length (flat l') ∧ l'.map PodT.data = copD l zs ∧ (∀ p ∈ l', p.New B wr) ∧ (∀ p ∈ l', p.Off v.ownBlock)

theorem copD_length (l : List PodT) (zs : List Int) (hz : zs.length ≤ 8) : (copD l zs).length ≤ 8 * l.length := by
  unfold copD
  have h : ∀ zs : List Int, (zs.flatMap fun z => (l.filter fun p => decide (p.shard = z)).map PodT.data).length ≤ zs.length * l.length := by
    intro zs
    induction zs with
    | nil => simp
    | cons z t ih =>
      rw [List.flatMap_cons, List.length_append, List.length_map, List.length_cons, Nat.add_mul, Nat.one_mul]
      have := List.length_filter_le (fun p : PodT => decide (p.shard = z)) l
      omega
  exact Nat.le_trans (h zs) (Nat.mul_le_mul_right _ hz)

theorem CopSt.later {B : Nat} {l : List PodT} {zs : List Int} {v : Value} {w w' : World} (h : CopSt B l zs v w) (hb : Below w.heap.size w w') : CopSt B l zs v w' := by
  obtain ⟨l', h1, h2, h3, h4⟩ := h
  exact ⟨l', own_later h1 hb, h2, fun p hp => (h3 p hp).later hb, h4⟩

/-- One shard more. -/
theorem CopSt.more {B : Nat} {l : List PodT} {zs : List Int} {z : Int} {v v3 v4 : Value} {W W3 w4 : World} {l' l3 : List PodT}
    (h1 : W.ownsRow B 60 7 v l'.length (flat l')) (h2 : l'.map PodT.data = copD l zs) (h3 : ∀ p ∈ l', p.New B W) (h4 : ∀ p ∈ l', p.Off v.ownBlock)
    (hd : l3.map PodT.data = (l.filter fun p => decide (p.shard = z)).map PodT.data) (hn : ∀ p ∈ l3, p.New W.heap.size W3) (hb : Below W.heap.size W W3) (hB : B ≤ W.heap.size)
    (ho4 : w4.ownsRow B 60 7 v4 (l'.length + l3.length) (flat l' ++ flat l3)) (hg4 : W3.grownBy w4 v.ownBlock) (hn4 : NewOr W3 v v4) : CopSt B l (zs ++ [z]) v4 w4 := by
  have hvl : ∀ k, v.ownBlock = some k → k < W.heap.size := fun k hk => (own_low h1 k hk).2
  have hz := hb.size
  have off : ∀ p : PodT, p.New B W3 → p.Off v.ownBlock → p.Off v4.ownBlock := fun p hp ho => by
    have key : ∀ (x : Addr), x.block < W3.heap.size → some x.block ≠ v.ownBlock → some x.block ≠ v4.ownBlock := fun x hx h1 e => by
      rcases hn4 _ e.symm with h5 | h5
      · exact h1 h5.symm
      · omega
    exact ⟨fun x hx => key x (hp.1.2.1 x hx).2 (ho.1 x hx), fun x hx => key x (hp.2.2.1 x hx).2 (ho.2 x hx)⟩
  have hn' : ∀ p ∈ l3, p.New B W3 ∧ p.Off v.ownBlock := fun p hp => by
    refine ⟨⟨(hn p hp).1.low hB, (hn p hp).2.low hB⟩, fun x hx e => ?_, fun x hx e => ?_⟩
    · have := hvl _ e.symm
      have := ((hn p hp).1.2.1 x hx).1
      omega
    · have := hvl _ e.symm
      have := ((hn p hp).2.2.1 x hx).1
      omega
  refine ⟨l' ++ l3, ?_, ?_, fun p hp => ?_, fun p hp => ?_⟩
  · rw [flat_append, List.length_append]; exact ho4
  · rw [List.map_append, h2, hd]
    unfold copD
    rw [List.flatMap_append]
    simp
  · rcases List.mem_append.1 hp with hp | hp
    · exact ((h3 p hp).later hb).grown hg4 (h4 p hp)
    · exact (hn' p hp).1.grown hg4 (hn' p hp).2
  · rcases List.mem_append.1 hp with hp | hp
    · exact off p ((h3 p hp).later hb) (h4 p hp)
    · exact off p (hn' p hp).1 (hn' p hp).2

end Go.Proofs.YtlehlbgaboifoabGreatDoor

/- A gang in memory of its own: copied. -/
namespace Go.Proofs.YtlehlbgaboifoabGreatDoor
open Go.RowKit Go.Maps
set_option linter.unusedSimpArgs false
set_option linter.unusedVariables false

theorem CopSt.frame {B : Nat} {l : List PodT} {zs : List Int} {v : Value} {w w' : World} (h : CopSt B l zs v w) (hk : ∀ k, B ≤ k → w'.heap[k]? = w.heap[k]?) (hs : w.heap.size ≤ w'.heap.size) : CopSt B l zs v w' := by
  obtain ⟨l', h1, h2, h3, h4⟩ := h
  refine ⟨l', own_frame h1 fun g hg => hk g (own_low h1 g hg).1, h2, fun p hp => ?_, h4⟩
  obtain ⟨⟨a1, a2, a3, a4⟩, ⟨b1, b2, b3, b4⟩⟩ := h3 p hp
  exact ⟨⟨a1.frame fun x hx _ => hk _ (a2 x hx).1, fun x hx => ⟨(a2 x hx).1, Nat.lt_of_lt_of_le (a2 x hx).2 hs⟩, a3, a4⟩, ⟨b1.frame fun x hx _ => hk _ (b2 x hx).1, fun x hx => ⟨(b2 x hx).1, Nat.lt_of_lt_of_le (b2 x hx).2 hs⟩, b3, b4⟩⟩
theorem CopSt.low {B B' : Nat} {l : List PodT} {zs : List Int} {v : Value} {w : World} (h : CopSt B l zs v w) (hB : B' ≤ B) : CopSt B' l zs v w := by
  obtain ⟨l', h1, h2, h3, h4⟩ := h
  exact ⟨l', own_base h1 hB, h2, fun p hp => ⟨(h3 p hp).1.low hB, (h3 p hp).2.low hB⟩, h4⟩

theorem filter_pos (l : List PodT) (z : Int) (h : z ∈ shardsB l) : 0 < (l.filter fun p => decide (p.shard = z)).length := by
  have h1 := ((shardsB_spec l).2 z).1 h
  obtain ⟨p, hp, hz⟩ := List.mem_map.1 h1
  exact List.length_pos_iff.2 (List.ne_nil_of_mem (List.mem_filter.2 ⟨hp, by simpa using hz⟩))
theorem flat_oneCell : ∀ (l : List PodT), ∀ u ∈ flat l, u.oneCell' = true
  | [], u, h => by simp [flat] at h
  | p :: l, u, h => by
    rw [flat] at h
    rcases List.mem_append.1 h with h | h
    · exact cells_oneCell p u h
    · exact flat_oneCell l u h
theorem own_news {w : World} {base g n cap : Nat} {e : TypeId} {size : Nat} {xs : List Value} (h : w.ownsRow base e size (.slice (some ⟨g, 0, none⟩) n cap) n xs) : ∀ j u, xs[j]? = some u → w.cell? ((⟨g, 0, none⟩ : Addr).add j) = some u := fun j u hu => by
  have := own_cell h j u hu
  rcases Nat.eq_zero_or_pos j with rfl | hj
  · simpa [Addr.add] using this
  · simpa [Addr.add, show j ≠ 0 by omega] using this

set_option maxRecDepth 100000 in
set_option maxHeartbeats 4000000 in
theorem copied_any (id : Int) (a : Option Addr) (n c : Nat) (l : List PodT) (w : World) (hl : l.length = n) (hn8 : n ≤ 8) (hP : Pods w a l) (hzs : (shardsB l).length ≤ 8) :
    Calls Tryz.prog 38 #[.agg #[.int .i64 id, .slice a n c]] w fun e w' => ∃ v, e = .returned (.agg #[.int .i64 id, v]) ∧ CopSt w.heap.size l (shardsB l) v w' ∧ Below w.heap.size w w' := by
  obtain ⟨i0, hi, iz0, iz1, iz2⟩ := info_parts infoPod
  have ks := fun W (hW : Below w.heap.size w W) => shards_any id a c n l W hl (hP.later hW)
  have kl := fun W (hW : Below w.heap.size w W) S => slice_any id S a c n l W hl (hP.later hW)
  have hfp := filter_pos l
  have hcl := copD_length l
  have q0 := up (Below.refl w.heap.size w) (.cells #[.int .i64 id, .slice a n c] 39)
  have q1 := up q0 (.cells #[.int .i64 0, .slice none 0 0] 39)
  have q2 := up q1 (.cells #[.int .i64 id, .slice none 0 0] 39)
  have bG := ((Box.new w #[.int .i64 id, .slice a n c] 39 rfl).up (.cells #[.int .i64 0, .slice none 0 0] 39)).up (.cells #[.int .i64 id, .slice none 0 0] 39)
  have bR := (Box.new (w.alloc (.cells #[.int .i64 id, .slice a n c] 39)) #[.int .i64 0, .slice none 0 0] 39 (B := w.heap.size + 1) (by simp)).up (.cells #[.int .i64 id, .slice none 0 0] 39)
  have bO := Box.new ((w.alloc (.cells #[.int .i64 id, .slice a n c] 39)).alloc (.cells #[.int .i64 0, .slice none 0 0] 39)) #[.int .i64 id, .slice none 0 0] 39 (B := w.heap.size + 1 + 1) (by simp)
  obtain ⟨zs, hzz⟩ : ∃ zs, shardsB l = zs := ⟨_, rfl⟩
  obtain ⟨L, hL⟩ : ∃ L, zs.length = L := ⟨_, rfl⟩
  rw [hzz] at hzs hfp ⊢
  simp only [hzz, hL] at ks
  rw [hL] at hzs
  have hZ : Hid (zs.length = L) := hL
  clear hzz hL
  go_enter Tryz.func38, Tryz.ntmps38
  go_upto_region 2 with fail
  generalize (((w.alloc (.cells #[.int .i64 id, .slice a n c] 39)).alloc (.cells #[.int .i64 0, .slice none 0 0] 39)).alloc (.cells #[.int .i64 id, .slice none 0 0] 39)) = w3 at *
  have g0 := bG.cell (i := 0) rfl
  have g1 := bG.cell (i := 1) rfl
  have ks3 := ks w3 q2
  clear ks q0 q1
  go_wp2_with (go_at_call 33; refine ks3.mono ?_; rintro e w4 ⟨gs, gc, rfl, hI, hgs, hb4⟩)
  have hw4 := fin hb4 q2
  have bG4 := bG.later hb4
  have bR4 := bR.later hb4
  have bO4 := bO.later hb4
  have hz4 := hb4.size
  have hO3 := bO.lt
  have hRl := bR.lt
  have hGl := bG.lt
  go_loopw [12] (fun v12 wr => ∃ (k : Nat) (v : Value), k ≤ L ∧ v12 = .int .i64 k ∧ Box wr (w.heap.size + 1 + 1) #[.int .i64 id, v] 39 ∧ CopSt w4.heap.size l (zs.take k) v wr ∧ Below w.heap.size w wr ∧ w4.heap.size ≤ wr.heap.size ∧ (∀ b, b < w4.heap.size → b ≠ w.heap.size + 1 + 1 → wr.heap[b]? = w4.heap[b]?) ∧ (∀ b, v.ownBlock = some b → w4.heap.size ≤ b)) (fun v12 _ => L - (intOf v12).toNat)
  case atStart => exact ⟨0, .slice none 0 0, Nat.zero_le _, rfl, bO4, ⟨[], World.ownsRow_nil _ _ _ _, rfl, (fun p hp => by cases hp), (fun p hp => by cases hp)⟩, hw4, Nat.le_refl _, (fun _ _ _ => rfl), (fun b hb => by cases hb)⟩
  case round =>
    obtain ⟨k, v, hk, rfl, bOr, hC, hbw, hzr, hkr, hvb⟩ := hrel
    by_cases hlt : k < L
    · obtain ⟨z, hz⟩ : ∃ z, zs[k]? = some z := ⟨_, List.getElem?_eq_getElem (by have := hZ.out; omega)⟩
      have hgl : gs < w4.heap.size := by have := block_lt (hI k z hz); exact this
      have hcr : wr.cell? ⟨gs, k, none⟩ = some (.int .i64 z) := (World.cell?_of_block (hkr gs hgl (by omega))).trans (hI k z hz)
      have hcr2 : wr.cell? ⟨gs, 0 + k, none⟩ = some (.int .i64 z) := by rw [Nat.zero_add]; exact hcr
      have htk : zs.take (k + 1) = zs.take k ++ [z] := take_snoc zs k z hz
      have hmz : z ∈ zs := List.mem_of_getElem? hz
      have hf := hfp z hmz
      have hlen := hcl (zs.take k) (by rw [List.length_take]; omega)
      obtain ⟨l', h1, h2, h3, h4⟩ := hC
      have hl' : l'.length ≤ 64 := by
        have e1 : l'.length = (l'.map PodT.data).length := by simp
        rw [e1, h2]
        omega
      obtain ⟨av, cv, rfl, _, _, _, _⟩ := own_cut h1
      have bGr : Box wr w.heap.size #[.int .i64 id, .slice a n c] 39 := bG4.frame (hkr _ (by omega) (by omega))
      have x0 := bGr.cell (i := 0) rfl
      have x1 := bGr.cell (i := 1) rfl
      have y1 : wr.cell? ⟨w.heap.size + 1 + 1, 1, none⟩ = some (.slice av l'.length cv) := bOr.cell rfl
      have hT : Hid (zs.take (k + 1) = zs.take k ++ [z]) := htk
      obtain ⟨N, hN⟩ : ∃ N, l'.length = N := ⟨_, rfl⟩
      have hNN : Hid (l'.length = N) := hN
      rw [hN] at h1 y1 hl' bOr
      simp only [hN] at h4 hvb
      have klz := kl wr.drew hbw.drew z
      clear htk hz hmz hI hcl hlen hfp hN g0 g1
      go_upto_region 5 with fail
      go_region_law (first
        | (refine step_call2 (by rfl) 88 _ _ _ _ (by rfl) _ _ (by rfl) (by rfl) cf_slice (klz.mono ?_); rintro e w5 ⟨v5, l5, rfl, ho5, hd5, hn5, hf5, hb5⟩; refine ⟨_, rfl, ?_⟩
           have hl5 : 0 < l5.length := (by have e1 : l5.length = (l5.map PodT.data).length := (by simp); rw [e1, hd5, List.length_map]; exact hf)
           have hl5' : l5.length ≤ 8 := (by have e1 : l5.length = (l5.map PodT.data).length := (by simp); rw [e1, hd5, List.length_map]; exact Nat.le_trans (List.length_filter_le _ _) (by omega))
           obtain ⟨g5, c5, rfl, hg5, hg5l, hnc5, _⟩ := own_slice ho5 hl5
           have bO5 := Box.later (w := wr.drew) bOr hb5
           have y5 : w5.cell? ⟨w.heap.size + 1 + 1, 1, none⟩ = some (.slice av N cv) := bO5.cell rfl)
        | (refine step_append_new (by rfl) _ _ 37 (by rfl) w4.heap.size 60 i0 _ 7 96 Tryz.underlying37 hi iz0 iz1 iz2 rfl (by decide) (.slice av N cv) N (flat l') (by rfl) (own_later (w := wr.drew) h1 hb5) ⟨g5, 0, none⟩ l5.length c5 (flat l5) (by rfl) (flat_length l5) (own_news ho5) (flat_oneCell l5) (by unfold maxLen; omega) (by omega) (Nat.le_trans hzr hb5.size) ?_
           intro v6 w6 ho6 hg6 hn6
           have bO6 := bO5.grown hg6 (own_off (own_later (w := wr.drew) h1 hb5) bO5 (by decide)).symm
           obtain ⟨a6, c6, rfl⟩ := tslice_of_own ho6
           have f6 := bO6.frozen 1
           have y6 : w6.cell? ⟨w.heap.size + 1 + 1, 1, none⟩ = some (.slice av N cv) := bO6.cell rfl))
      all_goals
        go_wp2
        go_roundw
        case rel =>
          have hz5 := hb5.size
          have hz5' : wr.heap.size ≤ w5.heap.size := hz5
          have hz6 := hg6.size
          have hvr : ∀ b, (Value.slice av N cv).ownBlock = some b → w4.heap.size ≤ b := hvb
          refine ⟨k + 1, .slice a6 (N + l5.length) c6, hlt, by go_num, bO6.set 1 _, ?_, ?_, by simp [World.setCell]; omega, fun b hb hne => ?_, fun b hb => (own_low ho6 b hb).1⟩
          · rw [hT.out]
            refine (CopSt.more (W := wr.drew) (v3 := .slice none 0 0) (v := .slice av N cv) (l' := l') (l3 := l5) (by rw [hNN.out]; exact h1) h2 h3 h4 hd5 hn5 hb5 hzr (by rw [hNN.out]; exact ho6) hg6 hn6).frame (fun b hb => setCell_other _ _ _ _ _ (by omega)) (by simp [World.setCell])
          · exact ((fin hb5 hbw.drew).grown hg6 (by have := hbw.size; omega) (fun j hj => by have := hvr j hj; omega)).setCell (p := ⟨w.heap.size + 1 + 1, 1, none⟩) (by simp only; omega) _
          · rw [setCell_other _ _ _ _ _ hne, hg6.block b (by omega) (fun e => by have := hvr b e.symm; omega), hb5.block b (by show b < wr.heap.size; omega)]
            exact hkr b hb hne
        case measure => simp [intOf]; omega
    · have : k = L := by omega
      subst this
      have e : zs.take k = zs := List.take_of_length_le (by have := hZ.out; omega)
      rw [e] at hC
      obtain ⟨l', h1, h2⟩ := hC
      obtain ⟨av, cv, rfl, _, _, _, _⟩ := own_cut h1
      have bRr : Box wr (w.heap.size + 1) #[.int .i64 0, .slice none 0 0] 39 := bR4.frame (hkr _ (by omega) (by omega))
      obtain ⟨o0, o1⟩ := bOr.cells2
      obtain ⟨r0, r1⟩ := bRr.cells2
      have rf := bRr.frozen
      have hfin := (bRr.set 0 (.int .i64 id)).set 1 (.slice av l'.length cv)
      obtain ⟨s0, s1⟩ := hfin.cells2
      go_wp2
      refine bodyPost_ret (by simp [results, Tryz.results38, go_sem, s0, s1]) rfl ⟨.slice av l'.length cv, rfl, ?_, (hbw.setCell (p := ⟨w.heap.size + 1, 0, none⟩) (by simp only; omega) _).setCell (p := ⟨w.heap.size + 1, 1, none⟩) (by simp only; omega) _⟩
      exact (CopSt.frame ⟨l', h1, h2⟩ (fun b hb => (setCell_other _ _ _ _ _ (by omega)).trans (setCell_other _ _ _ _ _ (by omega))) (by simp [World.setCell])).low (by omega)

end Go.Proofs.YtlehlbgaboifoabGreatDoor
