/- The walk of SpecOrder. -/
import Derived.Test.YtgcicillmljglabSL
import Derived.Test.YtgcicillmljglabN
import Derived.Test.YtgcicillmljglabI
import Derived.Deep.AppendLies
import Derived.Deep.RegionLaw
namespace Go.Proofs.Ytgcicillmljglab
open Go.RowKit Go.Maps
attribute [local go_sem ↓] Go.wp_at_zero Go.wp_at_succ

/-- The pod of place i, in the shard f i. -/
def podO (f : Nat → Int) (i : Nat) : PodT := ⟨nameAt i, f i, i, 0, none, 0, [], none, 0, [], false⟩
/-- The first k pods. -/
def podsO (f : Nat → Int) : Nat → List PodT
  | 0 => []
  | k + 1 => podsO f k ++ [podO f k]

theorem podsO_length (f : Nat → Int) : ∀ k, (podsO f k).length = k
  | 0 => rfl
  | k + 1 => by simp [podsO, podsO_length f k]
theorem podsO_ok (f : Nat → Int) (w : World) : ∀ k, ∀ p ∈ podsO f k, p.Ok w
  | 0, p, h => by simp [podsO] at h
  | k + 1, p, h => by
    simp only [podsO, List.mem_append, List.mem_singleton] at h
    rcases h with h | rfl
    · exact podsO_ok f w k p h
    · exact ⟨strs_nil w, strs_nil w⟩

/-- How many pods are in this shard. -/
def cntO (l : List PodT) (s : Int) : Nat := (l.filter fun p => decide (p.shard = s)).length

/-- The block of the five counts. -/
def CBox (w : World) (C : Nat) (c : Int → Nat) : Prop := w.heap[C]? = some (.cells #[.int .i64 0, .int .i64 (c 1), .int .i64 (c 2), .int .i64 (c 3), .int .i64 (c 4)] 42 (0, 0))

theorem CBox.cell {w : World} {C : Nat} {c : Int → Nat} (h : CBox w C c) (j : Nat) (hj : 1 ≤ j ∧ j ≤ 4) : w.cell? ⟨C, j, none⟩ = some (.int .i64 (c j)) := by
  unfold CBox at h
  rcases (by omega : j = 1 ∨ j = 2 ∨ j = 3 ∨ j = 4) with rfl | rfl | rfl | rfl <;> simp [World.cell?, h]
theorem CBox.frozen {w : World} {C : Nat} {c : Int → Nat} (h : CBox w C c) (j : Nat) : w.frozen? ⟨C, j, none⟩ = false := by
  unfold CBox at h; simp [World.frozen?, h]
theorem CBox.grown {w w' : World} {C : Nat} {c : Int → Nat} {row : Option Nat} (h : CBox w C c) (hg : w.grownBy w' row) (hne : some C ≠ row) : CBox w' C c := by
  unfold CBox at *
  rw [hg.block C (Array.getElem?_eq_some_iff.1 h).1 hne, h]
theorem CBox.later {w w' : World} {C : Nat} {c : Int → Nat} (h : CBox w C c) (hb : Below w.heap.size w w') : CBox w' C c := h.grown (below_grown hb) (fun e => by cases e)
theorem CBox.other {w : World} {C : Nat} {c : Int → Nat} (h : CBox w C c) {a : Addr} (ha : C ≠ a.block) (u : Value) : CBox (w.setCell a u) C c := by
  unfold CBox at *
  rw [Below.heap_setCell w a u C ha, h]
theorem CBox.set {w : World} {C : Nat} {c c' : Int → Nat} (h : CBox w C c) (s : Nat) (hs : 1 ≤ s ∧ s ≤ 4) (h1 : c' s = c s + 1) (h2 : ∀ j : Nat, 1 ≤ j ∧ j ≤ 4 → j ≠ s → c' j = c j) : CBox (w.setCell ⟨C, s, none⟩ (.int .i64 ((c s : Int) + 1))) C c' := by
  unfold CBox at *
  rw [heap_setCell_same w C s _ _ _ h]
  have k1 := h2 1
  have k2 := h2 2
  have k3 := h2 3
  have k4 := h2 4
  rcases (by omega : s = 1 ∨ s = 2 ∨ s = 3 ∨ s = 4) with rfl | rfl | rfl | rfl
  all_goals
    simp at h1 k1 k2 k3 k4
    simp [h1, k1, k2, k3, k4]

theorem cnt_snoc (l : List PodT) (p : PodT) (s : Int) : cntO (l ++ [p]) s = cntO l s + if p.shard = s then 1 else 0 := by
  unfold cntO
  rw [List.filter_append, List.length_append]
  congr 1
  by_cases h : p.shard = s <;> simp [h]

/-- The shards below n that have a pod. -/
def wantTo (c : Int → Nat) : Nat → List Int
  | 0 => []
  | s + 1 => wantTo c s ++ (if 1 ≤ s ∧ 0 < c s then [(s : Int)] else [])

theorem want_mem (c : Int → Nat) : ∀ n z, z ∈ wantTo c n ↔ ∃ j : Nat, 1 ≤ j ∧ j < n ∧ 0 < c j ∧ z = j
  | 0, z => by simp [wantTo]
  | n + 1, z => by
    rw [wantTo, List.mem_append, want_mem c n z]
    constructor
    · rintro (⟨j, h1, h2, h3, h4⟩ | h)
      · exact ⟨j, h1, by omega, h3, h4⟩
      · by_cases e : 1 ≤ n ∧ 0 < c n
        · rw [if_pos e] at h
          exact ⟨n, e.1, by omega, e.2, by simpa using h⟩
        · rw [if_neg e] at h
          simp at h
    · rintro ⟨j, h1, h2, h3, h4⟩
      rcases Nat.lt_or_ge j n with h | h
      · exact .inl ⟨j, h1, h, h3, h4⟩
      · have : j = n := by omega
        subst this
        exact .inr (by rw [if_pos ⟨h1, h3⟩]; simp [h4])
theorem want_strict (c : Int → Nat) : ∀ n, (wantTo c n).Pairwise (· < ·)
  | 0 => by simp [wantTo]
  | n + 1 => by
    rw [wantTo, List.pairwise_append]
    refine ⟨want_strict c n, by split <;> simp, fun a ha b hb => ?_⟩
    obtain ⟨j, h1, h2, h3, rfl⟩ := (want_mem c n a).1 ha
    by_cases e : 1 ≤ n ∧ 0 < c n
    · rw [if_pos e] at hb
      simp at hb
      omega
    · rw [if_neg e] at hb
      simp at hb
theorem want_le (c : Int → Nat) : ∀ n, (wantTo c n).length ≤ n
  | 0 => by simp [wantTo]
  | n + 1 => by
    have := want_le c n
    rw [wantTo, List.length_append]
    split <;> simp <;> omega

theorem podsO_mem (f : Nat → Int) : ∀ m p, p ∈ podsO f m → ∃ i, i < m ∧ p = podO f i
  | 0, p, h => by simp [podsO] at h
  | m + 1, p, h => by
    simp only [podsO, List.mem_append, List.mem_singleton] at h
    rcases h with h | h
    · obtain ⟨i, hi, e⟩ := podsO_mem f m p h
      exact ⟨i, by omega, e⟩
    · exact ⟨m, by omega, h⟩

theorem podsO_cpu (f : Nat → Int) : ∀ m, (podsO f m).Pairwise (fun p q => p.cpu < q.cpu)
  | 0 => by simp [podsO]
  | m + 1 => by
    rw [podsO, List.pairwise_append]
    refine ⟨podsO_cpu f m, by simp, fun a ha b hb => ?_⟩
    obtain ⟨i, hi, rfl⟩ := podsO_mem f m a ha
    simp only [List.mem_singleton] at hb
    subst hb
    show (i : Int) < (m : Int)
    omega

theorem shards_want (f : Nat → Int) (hf : ∀ i, 1 ≤ f i ∧ f i ≤ 4) (m : Nat) : shardsB (podsO f m) = wantTo (cntO (podsO f m)) 5 := by
  obtain ⟨h1, h2⟩ := shardsB_spec (podsO f m)
  refine strict_ext _ _ h1 (want_strict _ _) fun z => ?_
  rw [h2, want_mem]
  have hpos : ∀ s : Int, 0 < cntO (podsO f m) s ↔ ∃ p ∈ podsO f m, p.shard = s := fun s => by
    unfold cntO
    rw [List.length_pos_iff_exists_mem]
    constructor
    · rintro ⟨p, hp⟩
      rw [List.mem_filter] at hp
      exact ⟨p, hp.1, by simpa using hp.2⟩
    · rintro ⟨p, hp, e⟩
      exact ⟨p, List.mem_filter.2 ⟨hp, by simpa using e⟩⟩
  constructor
  · intro hz
    obtain ⟨p, hp, e⟩ := List.mem_map.1 hz
    obtain ⟨i, hi, rfl⟩ := podsO_mem f m p hp
    have hfi := hf i
    have e' : f i = z := e
    refine ⟨z.toNat, by omega, by omega, ?_, by omega⟩
    rw [hpos]
    exact ⟨_, hp, by rw [e]; omega⟩
  · rintro ⟨j, h1, h2, h3, rfl⟩
    obtain ⟨p, hp, e⟩ := (hpos _).1 h3
    exact List.mem_map.2 ⟨p, hp, e⟩

/-- What is known of a slice's pods by what they are. -/
theorem slice_facts {l l' : List PodT} {s : Int} (hd : l'.map PodT.data = (l.filter fun p => decide (p.shard = s)).map PodT.data) (hl : l.Pairwise (fun p q => p.cpu < q.cpu)) :
    l'.length = cntO l s ∧ (∀ (i : Nat) p, l'[i]? = some p → p.shard = s) ∧ (∀ (i j : Nat) p q, l'[i]? = some p → l'[j]? = some q → i < j → p.cpu < q.cpu) := by
  have hlen : l'.length = cntO l s := by
    have := congrArg List.length hd
    simpa [cntO] using this
  have hget : ∀ (i : Nat) p, l'[i]? = some p → ∃ r, (l.filter fun p => decide (p.shard = s))[i]? = some r ∧ r.data = p.data := fun i p hp => by
    have h1 : (l'.map PodT.data)[i]? = some p.data := by rw [List.getElem?_map, hp]; rfl
    rw [hd, List.getElem?_map] at h1
    cases hr : (l.filter fun p => decide (p.shard = s))[i]? with
    | none => rw [hr] at h1; cases h1
    | some r => rw [hr] at h1; exact ⟨r, rfl, by simpa using h1⟩
  refine ⟨hlen, fun i p hp => ?_, fun i j p q hp hq hij => ?_⟩
  · obtain ⟨r, hr, e⟩ := hget i p hp
    have := (List.mem_filter.1 (List.mem_of_getElem? hr)).2
    have e2 : r.shard = p.shard := congrArg (fun d => d.2.1) e
    rw [← e2]
    simpa using this
  · obtain ⟨r, hr, e⟩ := hget i p hp
    obtain ⟨t, ht, e'⟩ := hget j q hq
    have e2 : r.cpu = p.cpu := congrArg (fun d => d.2.2.1) e
    have e3 : t.cpu = q.cpu := congrArg (fun d => d.2.2.1) e'
    have hpw := hl.filter (fun p => decide (p.shard = s))
    obtain ⟨hi, h1⟩ := List.getElem?_eq_some_iff.1 hr
    obtain ⟨hj, h2⟩ := List.getElem?_eq_some_iff.1 ht
    have := List.pairwise_iff_getElem.1 hpw i j hi hj hij
    rw [h1, h2, e2, e3] at this
    exact this

theorem ints_own {w : World} {base n : Nat} {v : Value} {zs : List Int} (h : w.ownsRow base 3 1 v n (zs.map (Value.int .i64))) (hl : zs.length ≤ 1000) : ∃ a c, v = .slice a zs.length c ∧ IntsAt w a zs := by
  have hn : zs.length = n := by have := h.1; simpa using this
  rcases h.2 with ⟨rfl, h0⟩ | ⟨g, cap, cur, rfl, _⟩
  · have : zs = [] := List.length_eq_zero_iff.1 (by omega)
    subst this
    exact ⟨none, 0, rfl, by simp, fun i z hz => by simp at hz⟩
  · exact ⟨some ⟨g, 0, none⟩, cap, by rw [hn], (ints_of_own h).at hl⟩

/-- A call of one argument, at a step of a region that draws its order. -/
theorem step_call1 {w : World} {ops : Array Oper} {o : Oper} {a : Act} {K : Act → World → Prop} {Q : Exit → Act → World → Prop} {E : Prop} (hgd : o.guard = none) (f : FuncId) (u : Tmp) (t : TypeId)
    (ho : o.op = .call { callee := .value (.func f), args := #[.tmp u], argTypes := #[t] }) (v : Value) (hs : a.tmps[u]?.getD undef = v) (hf : ∀ args w, (callFunc f args).run Try.prog w = .ok (.enter f args) w)
    (h : Calls Try.prog f #[v] w fun e w' => ∃ u, e = .returned u ∧ K (a.put o.dst u) w') :
    if Region.wanted o (yielded ops a.tmps) = true then Oper.wp Try.prog o a w K Q else E := by
  have hw : Region.wanted o (yielded ops a.tmps) = true := by simp [Region.wanted, hgd]
  rw [if_pos hw]
  obtain ⟨dst, op, ty, pos, after, guard⟩ := o
  simp only at ho
  subst ho
  have e : (execOp a.eval ⟨dst, .call { callee := .value (.func f), args := #[.tmp u], argTypes := #[t] }, ty, pos, after, guard⟩).run Try.prog w = .ok (.enter f #[v]) w := by
    simp [go_sem, hs, hf]
  unfold Oper.wp
  rw [e]
  simp only [Oper.upon]
  exact h.mono fun e w' ⟨u, he, hk⟩ => by subst he; exact hk

theorem cf_lName (args : Array Value) (w : World) : (callFunc 11 args).run Try.prog w = .ok (.enter 11 args) w := by kernel_rfl

set_option maxRecDepth 100000 in
set_option maxHeartbeats 4000000 in
theorem specOrder_walk (a0 : Option Addr) (len0 cap0 : Nat) (z0 : List Int) (w : World) (w0 : IsRow .i64 w a0 len0 cap0 z0) :
    Calls Try.prog 5 #[.slice a0 len0 cap0] w fun e w' => e = .returned (.bool true) ∧ Below w.heap.size w w' := by
  replace w0 := w0.has
  have hmax := w0.1
  unfold maxLen at hmax
  obtain ⟨f, hf⟩ : ∃ f : Nat → Int, ∀ i, f i = 1 + z0.getD i 0 % 4 := ⟨_, fun _ => rfl⟩
  have hb0 := Below.refl w.heap.size w
  obtain ⟨i0, hi, hz0, hz1, hz2⟩ := info_parts infoPod
  go_enter Try.func5, Try.ntmps5
  go_wp2_with (first
    | (go_at_call 6; refine (known_on _ _ (by assumption)).mono ?_; rintro e w1 ⟨rfl, hb1⟩))
  go_loopw [5] (fun i wr => ∃ m : Nat, m ≤ 30 ∧ m ≤ len0 ∧ i = .int .i64 m ∧ ∃ v, GBox wr w1.heap.size 1 v ∧ wr.ownsRow (w1.heap.size + 1 + 1) 28 7 v m (flat (podsO f m)) ∧ CBox wr (w1.heap.size + 1) (cntO (podsO f m)) ∧ Below w.heap.size w wr) (fun i _ => 30 - (intOf i).toNat)
  case atStart =>
    refine ⟨0, by omega, by omega, rfl, _, (GBox.new _ _ _).grown (World.grownBy_alloc _ _ none) (fun e => by cases e), World.ownsRow_nil _ _ _ _, ?_, up (up hb1 _) _⟩
    have := heap_alloc_new (w1.alloc (.cells #[.int .i64 1, .slice none 0 0] 37)) (.cells #[.int .i64 0, .int .i64 0, .int .i64 0, .int .i64 0, .int .i64 0] 42)
    simpa [CBox, cntO, podsO] using this
  case round =>
    obtain ⟨m, hm, hml, rfl, v, hG, hrow, hC, hbw⟩ := hrel
    by_cases hlt : m < 30 ∧ m < len0
    · obtain ⟨x, rfl, hcz⟩ := w0.2 m hlt.2
      replace hcz := cell_below hbw hcz (block_lt hcz)
      obtain ⟨z, hz⟩ : ∃ z, z0.getD m 0 = z := ⟨_, rfl⟩
      rw [hz] at hcz
      have hfm := hf m
      rw [hz] at hfm
      have i1 : (m : Int) < len0 := by omega
      have i2 : (m : Int) < 30 := by omega
      have i3 : (0 : Int) ≤ m := by omega
      have hcv := hG.cell1
      have hws := hG.lt
      obtain ⟨k, hk⟩ : ∃ k : Nat, z % 4 = k := ⟨(z % 4).toNat, by omega⟩
      have hk4 : k < 4 := by omega
      go_wp2_with (first
        | (go_at_call 7; refine (within_any _ _ _ (by decide) (by decide) hk _).mono ?_; rintro e wr ⟨rfl, rfl⟩))
      obtain ⟨s, hs⟩ : ∃ s, nameAt m = s := ⟨_, rfl⟩
      have hsh : f m = 1 + (k : Int) := by omega
      have hcl : Hid ((podO f m).cells = [.string s, .int .i64 (1 + (k : Int)), .int .i64 m, .int .i64 0, .slice none 0 0, .slice none 0 0, .bool false]) := by
        show _ = _
        unfold podO
        rw [hs, hsh]
        rfl
      have hsnoc : Hid (∀ s : Int, cntO (podsO f (m + 1)) s = cntO (podsO f m) s + if 1 + (k : Int) = s then 1 else 0) := by
        show ∀ _, _
        intro s
        rw [podsO, cnt_snoc]
        show _ = _ + if 1 + (k : Int) = s then 1 else 0
        rw [← hsh]
        rfl
      have hne : some w1.heap.size ≠ v.ownBlock := fun e => by have := (hrow.lt _ e.symm).1; omega
      have hne2 : some (w1.heap.size + 1) ≠ v.ownBlock := fun e => by have := (hrow.lt _ e.symm).1; omega
      have y0 : wr.drew.cell? ⟨w1.heap.size, 1, none⟩ = some v := hcv
      have bD : Below w.heap.size w wr.drew := Below.drew hbw
      go_region_law (first
          | (refine step_call1 (by rfl) 11 _ _ (by rfl) _ (by rfl) cf_lName ((lName_is _ s _ _ (Below.refl _ _) hs).mono ?_); rintro e w8 ⟨rfl, hb8⟩; refine ⟨_, rfl, ?_⟩
             have b8 : Below w.heap.size w w8 := bD.trans (hb8.mono bD.size)
             have hb8' : Below wr.heap.size wr w8 := (Below.drew (Below.refl _ _)).trans hb8
             have y8 : w8.cell? ⟨w1.heap.size, 1, none⟩ = some v := (hG.later hb8').cell1
             have y8a : ∀ o, (w8.alloc o).cell? ⟨w1.heap.size, 1, none⟩ = some v := fun o => cell_alloc y8 o)
          | (refine step_append_lies _ (by rfl) _ _ 35 (by rfl) (w1.heap.size + 1 + 1) 28 i0 _ 7 96 Try.underlying35 hi hz0 hz1 hz2 rfl (by decide) v m _ (by rfl) ((own_keep hrow hb8').alloc _) ⟨_, 0, none⟩ 1 1 [.string s, .int .i64 (1 + (k : Int)), .int .i64 m, .int .i64 0, .slice none 0 0, .slice none 0 0, .bool false] (by rfl) (by rfl) (cells_new _ _ _ _ rfl) (by intro u hu; simp only [List.mem_cons, List.not_mem_nil, or_false] at hu; rcases hu with rfl | rfl | rfl | rfl | rfl | rfl | rfl <;> rfl) (by omega) (by unfold maxLen; omega) (by omega) (by have := hb8'.size; simp; omega) (w8.heap.size + 1) (by simp) ?_
             intro g cap w11 hown hgrow hat hg11
             have hG11 := ((hG.later hb8').grown (World.grownBy_alloc _ _ none) (fun e => by cases e)).grown hgrow hne
             have hC11 := ((hC.later hb8').grown (World.grownBy_alloc _ _ none) (fun e => by cases e)).grown hgrow hne2
             have b11 : Below w.heap.size w w11 := (up b8 _).grown hgrow (up b8 _).size (fun j hj => by have := (hrow.lt j hj).1; have := hb1.size; omega)
             have y11 := hG11.cell1
             have z11 := hG11.frozen1 1))
      all_goals
        have b12 : Below w.heap.size w (w11.setCell ⟨w1.heap.size, 1, none⟩ (.slice (some ⟨g, 0, none⟩) (m + 1) cap)) := b11.setCell hb1.size _
        have hG12 := hG11.set (.slice (some ⟨g, 0, none⟩) (m + 1) cap)
        have hC12 := hC11.other (a := ⟨w1.heap.size, 1, none⟩) (by simp) (.slice (some ⟨g, 0, none⟩) (m + 1) cap)
        have hrow12 := ownsRow_setCell_below hown (a := ⟨w1.heap.size, 1, none⟩) (show w1.heap.size < w1.heap.size + 1 + 1 by omega) (.slice (some ⟨g, 0, none⟩) (m + 1) cap)
        obtain ⟨w12, hw12⟩ : ∃ w12, w12 = w11.setCell ⟨w1.heap.size, 1, none⟩ (.slice (some ⟨g, 0, none⟩) (m + 1) cap) := ⟨_, rfl⟩
        rw [← hw12] at b12 hG12 hC12 hrow12 ⊢
        have hck := hC12.cell (1 + k) (by omega)
        have hfk := hC12.frozen (1 + k)
        have hC13 := hC12.set (c' := cntO (podsO f (m + 1))) (1 + k) (by omega) (by rw [hsnoc.out]; simp) (fun j hj hne => by rw [hsnoc.out, if_neg (by omega)]; rfl)
        have hG13 := hG12.other (a := ⟨w1.heap.size + 1, 1 + k, none⟩) (by simp) (.int .i64 ((cntO (podsO f m) ((1 + k : Nat) : Int) : Int) + 1))
        have hrow13 := ownsRow_setCell_below hrow12 (a := ⟨w1.heap.size + 1, 1 + k, none⟩) (by simp) (.int .i64 ((cntO (podsO f m) ((1 + k : Nat) : Int) : Int) + 1))
        have b13 := b12.setCell (p := ⟨w1.heap.size + 1, 1 + k, none⟩) (by have := hb1.size; simp; omega) (.int .i64 ((cntO (podsO f m) ((1 + k : Nat) : Int) : Int) + 1))
        obtain ⟨cn, hcn⟩ : ∃ cn, cntO (podsO f m) ((1 + k : Nat) : Int) = cn := ⟨_, rfl⟩
        have hcn30 : cn ≤ 30 := by
          rw [← hcn]
          unfold cntO
          have := List.length_filter_le (fun p : PodT => decide (p.shard = ((1 + k : Nat) : Int))) (podsO f m)
          rw [podsO_length] at this
          omega
        rw [hcn] at hck hC13 hG13 hrow13 b13
        clear hw12 hG11 hC11 b11 y11 z11 hown hgrow hat hg11 y8 y8a b8 hb8 hb8' hcn hC12 hG12 hrow12 y0 bD hC hG hrow hcv w0 hcz hbw hs hsh
        rcases (by omega : k = 0 ∨ k = 1 ∨ k = 2 ∨ k = 3) with rfl | rfl | rfl | rfl
        all_goals
          simp only [Nat.reduceAdd, Nat.add_zero] at hck hfk hC13 hG13 hrow13 b13
          go_wp2
          go_roundw
          case rel => exact ⟨m + 1, by omega, by omega, by go_num, _, hG13, by rw [podsO, flat_append, flat_one, hcl.out]; exact hrow13, hC13, b13⟩
          case measure => simp [intOf]; omega
    · have hfb : ∀ i, 1 ≤ f i ∧ f i ≤ 4 := fun i => by have := hf i; omega
      obtain ⟨a, cap, rfl, -, hcap, hP, -, -⟩ := pods_of_own hrow (podsO_ok f wr m) (by rw [podsO_length]; omega)
      have hw5 := shards_want f hfb m
      have hpl := podsO_length f m
      have hcpu := podsO_cpu f m
      obtain ⟨L, hL⟩ : ∃ L, podsO f m = L := ⟨_, rfl⟩
      rw [hL] at hP hw5 hpl hcpu hC
      clear hL hf hrow w0
      have kS := fun (S : Int) W (h : Below wr.heap.size wr W) => slice_any 1 S a cap m L W hpl (hP.later h)
      have kH := fun W (h : Below wr.heap.size wr W) => shards_any 1 a cap m L W hpl (hP.later h)
      have kC := fun W (h : Below wr.heap.size wr W) => hC.later h
      have kG1 := fun W (h : Below wr.heap.size wr W) => (hG.later h).cell1
      have kG0 := fun W (h : Below wr.heap.size wr W) => (hG.later h).cell0
      have hx : (len0 : Int) ≤ m ∨ ((m : Int) < len0 ∧ (30 : Int) ≤ m) := by omega
      have hle30 : m ≤ 30 := hm
      obtain ⟨j0, hj, jz0, jz1, jz2⟩ := info_parts info3
      clear hm hml hG hC hlt
      rcases hx with hx | ⟨hx, hx2⟩
      all_goals
        go_wp2
        go_loopw [7, 8] (fun v i w2 => ∃ s : Nat, 1 ≤ s ∧ s ≤ 5 ∧ i = .int .i64 s ∧ w2.ownsRow wr.heap.size 3 1 v (wantTo (cntO L) s).length ((wantTo (cntO L) s).map (Value.int .i64)) ∧ Below wr.heap.size wr w2) (fun _ i _ => 5 - (intOf i).toNat)
        case atStart => exact ⟨1, by omega, by omega, rfl, World.ownsRow_nil _ _ _ _, Below.refl _ _⟩
        case round =>
          obtain ⟨s, hs1, hs5, rfl, hown, hb2⟩ := hrel
          by_cases hs : s < 5
          · have kS2 := kS s _ hb2
            have x0 := kG0 _ hb2
            have x1 := kG1 _ hb2
            have i1 : (s : Int) ≤ 4 := by omega
            have i2 : (0 : Int) ≤ s := by omega
            have i3 : (s : Int) < 5 := by omega
            have hcn30 : cntO L s ≤ 30 := by
              unfold cntO
              have := List.length_filter_le (fun p : PodT => decide (p.shard = (s : Int))) L
              omega
            obtain ⟨cn, hcn⟩ : ∃ cn, cntO L s = cn := ⟨_, rfl⟩
            have hwn : Hid (wantTo (cntO L) (s + 1) = wantTo (cntO L) s ++ if 0 < cn then [(s : Int)] else []) := by
              show _ = _
              rw [wantTo, hcn]
              congr 1
              by_cases h : 0 < cn
              · rw [if_pos ⟨hs1, h⟩, if_pos h]
              · rw [if_neg (fun e => h e.2), if_neg h]
            have hwl := want_le (cntO L) s
            obtain ⟨ws, hws⟩ : ∃ ws, wantTo (cntO L) s = ws := ⟨_, rfl⟩
            rw [hws] at hown hwn hwl
            rw [hcn] at hcn30
            clear hws
            go_wp2_with (go_at_call 12; refine kS2.mono ?_; rintro e w3 ⟨v9, l9, he, hown9, hd9, hN9, hO9, hb3⟩
                         obtain ⟨hl9, hsh9, hcp9⟩ := slice_facts hd9 hcpu
                         rw [hcn] at hl9
                         rw [hl9] at hown9
                         obtain ⟨a9, cap9, hv9, -, hcap9, hP9, -, -⟩ := pods_of_own hown9 (fun p hp => (hN9 p hp).ok) (by omega)
                         subst hv9
                         subst he
                         have hb3' := hb2.trans (hb3.mono hb2.size)
                         have y1 := (kC _ hb3').cell s (by omega)
                         rw [hcn] at y1)
            go_loopw [10] (fun i wi => ∃ k : Nat, k ≤ cn ∧ i = .int .i64 k ∧ Below w3.heap.size w3 wi) (fun i _ => cn - (intOf i).toNat)
            case atStart => exact ⟨0, Nat.zero_le _, rfl, Below.refl _ _⟩
            case round =>
              obtain ⟨k, hk, rfl, hbi⟩ := hrel
              by_cases hkc : k < cn
              · obtain ⟨p, hp⟩ : ∃ p, l9[k]? = some p := ⟨_, List.getElem?_eq_getElem (by omega)⟩
                obtain ⟨B, o, rfl, hat, -⟩ := (hP9.later hbi).2 k p hp
                have hsk := hsh9 k p hp
                have hck := fun j q hq hj => hcp9 j k q p hq hp hj
                obtain ⟨d0, d1, d2, d3, d4, d5, d6⟩ := hat
                rw [hsk] at d1
                obtain ⟨cpu, hcpu9⟩ : ∃ c, p.cpu = c := ⟨_, rfl⟩
                rw [hcpu9] at d2 hck
                have c1 : (0 : Int) ≤ (k : Int) := by omega
                have c2 : (k : Int) < cn := by omega
                rcases (by cases k with | zero => exact .inl rfl | succ m => exact .inr ⟨m, rfl⟩ : k = 0 ∨ ∃ m, k = m + 1) with rfl | ⟨j, rfl⟩
                · rw [Nat.zero_mul, Nat.add_zero] at d1
                  clear hck hP9 hown9 hN9 hO9 hsh9 hcp9 d0 d2 d3 d4 d5 d6 kS kH kC kG1 kG0 kS2
                  go_wp2
                  go_quiet (fail)
                  go_wp2
                  go_roundw
                  case rel => exact ⟨1, hkc, rfl, below_drewN hbi _⟩
                  case measure => simp [intOf]; omega
                · obtain ⟨q, hq⟩ : ∃ q, l9[j]? = some q := ⟨_, List.getElem?_eq_getElem (by omega)⟩
                  obtain ⟨B', o', hx', hat', -⟩ := (hP9.later hbi).2 j q hq
                  obtain ⟨rfl, rfl⟩ : B = B' ∧ o = o' := by simpa using hx'
                  obtain ⟨-, -, e2, -, -, -, -⟩ := hat'
                  have hlt2 := hck j q hq (by omega)
                  obtain ⟨cpq, hcpq⟩ : ∃ c, q.cpu = c := ⟨_, rfl⟩
                  rw [hcpq] at e2 hlt2
                  have c3 : (0 : Int) ≤ (j : Int) := by omega
                  have c4 : (j : Int) < cn := by omega
                  have c5 : (0 : Int) < (j : Int) + 1 := by omega
                  have c6 : IntKind.i64.wrap ((j : Int) + 1 - 1) = j := by rw [IntKind.wrap_i64]; omega
                  have c7 : IntKind.i64.wrap (((j + 1 : Nat) : Int) - 1) = j := by rw [IntKind.wrap_i64]; omega
                  have c8 : IntKind.i64.wrap (j : Int) = j := by rw [IntKind.wrap_i64]; omega
                  have c9 : ¬ cpu ≤ cpq := by omega
                  clear hck hP9 hown9 hN9 hO9 hsh9 hcp9 d0 d3 d4 d5 d6 kS kH kC kG1 kG0 kS2 hx'
                  go_wp2
                  go_quiet (fail)
                  go_wp2
                  go_roundw
                  case rel => exact ⟨j + 1 + 1, hkc, by go_num, below_drewN hbi _⟩
                  case measure => simp [intOf]; omega
              · have hb4 := hb3'.trans (hbi.mono hb3'.size)
                have y2 := (kC _ hb4).cell s (by omega)
                rw [hcn] at y2
                have hb5 := (hb3.trans (hbi.mono hb3.size))
                have hown5 := own_keep hown hb5
                clear hP9 hown9 hN9 hO9 hsh9 hcp9 kS kH kC kG1 kG0 kS2 y1 hown
                by_cases hc0 : (0 : Int) < cn
                · have hc0' : 0 < cn := by omega
                  go_wp2_with (first
                    | (at_builtin; refine wpList_append_own _ rfl _ _ 41 rfl _ 3 j0 (.int .i64 0) 1 8 Try.underlying41 hj jz0 jz1 jz2 rfl (by decide) _ _ _ rfl (hown5.alloc _) ⟨_, 0, none⟩ 1 1 [.int .i64 s] rfl rfl (cell_one_new _ _ _) (fun u hu => by simp at hu; subst hu; rfl) (by unfold maxLen; omega) (by omega) (by have := hb4.size; simp; omega) ?_; intro v' w6 hown6 hgrow6 hnil6)
                    | go_in)
                  go_roundw
                  case rel => exact ⟨s + 1, by omega, by omega, by go_num, by rw [hwn.out, if_pos hc0', List.length_append, List.map_append]; exact hown6, (up hb4 _).grown hgrow6 (up hb4 _).size (fun j hj => (hown5.lt j hj).1)⟩
                  case measure => simp [intOf]; omega
                · have hc0' : ¬ 0 < cn := by omega
                  go_wp2
                  go_roundw
                  case rel => exact ⟨s + 1, by omega, by omega, by go_num, by rw [hwn.out, if_neg hc0', List.append_nil]; exact hown5, hb4⟩
                  case measure => simp [intOf]; omega
          · have e5 : s = 5 := by omega
            subst e5
            have kH2 := kH _ hb2
            have x0 := kG0 _ hb2
            have x1 := kG1 _ hb2
            rw [hw5] at kH2
            have hwl := want_le (cntO L) 5
            obtain ⟨ws, hws⟩ : ∃ ws, wantTo (cntO L) 5 = ws := ⟨_, rfl⟩
            rw [hws] at hown kH2 hwl
            obtain ⟨a7, c7, hv7, hi7⟩ := ints_own hown (by omega)
            subst hv7
            clear kS kC kG0 kG1 kH hws hw5 hown
            go_wp2_with (first
              | (go_at_call 14; refine kH2.mono ?_; rintro e w8 ⟨g8, cap8, rfl, hI8, hg8, hb8⟩
                 have hb8' := hb2.trans (hb8.mono hb2.size)
                 have kI := rInts_same (some ⟨g8, 0, none⟩) a7 cap8 c7 ws.length ws w8 rfl (hI8.at (by omega)) (hi7.later hb8))
              | (go_at_call 13; refine kI.mono ?_; rintro e w9 ⟨rfl, hb9⟩))
            go_ret
            exact ⟨rfl, hbw.trans ((hb8'.trans (hb9.mono hb8'.size)).mono hbw.size)⟩

end Go.Proofs.Ytgcicillmljglab
