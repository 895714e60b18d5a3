/- The contract of Nodes of package ledger. -/
import Derived.Test.YthneemgpifbehaaGreatDoorMg11
import Derived.Test.YthneemgpifbehaaGreatDoorMg09
import Derived.Laws.AppendOwnNone
import Derived.Laws.MakeOwn
import Derived.Laws.OwnMore
import Derived.Maps.AppendAt
namespace Go.Proofs.YthneemgpifbehaaGreatDoor
open Go.RowKit Go.Maps

def NodeAt (w : World) (B o : Nat) (r : Rec) : Prop :=
  w.cell? ⟨B, o, none⟩ = some (.string r.nm) ∧ w.cell? ⟨B, o + 1, none⟩ = some (.int .i64 r.cpu) ∧ w.cell? ⟨B, o + 2, none⟩ = some (.int .i64 r.mem) ∧ w.cell? ⟨B, o + 3, none⟩ = some (.slice r.a1 r.xs.length r.c1) ∧ w.cell? ⟨B, o + 4, none⟩ = some (.slice r.a2 r.ys.length r.c2) ∧ w.cell? ⟨B, o + 5, none⟩ = some (.bool r.cl)
def Rec.cells (r : Rec) : List Value := [.string r.nm, .int .i64 r.cpu, .int .i64 r.mem, .slice r.a1 r.xs.length r.c1, .slice r.a2 r.ys.length r.c2, .bool r.cl]
/-- What a node is, wherever its rows lie. -/
def Rec.core (r : Rec) : ByteArray × Int × Int × List ByteArray × List ByteArray × Bool := (r.nm, r.cpu, r.mem, r.xs, r.ys, r.cl)
/-- A node's rows are there, from this block on. -/
structure Rec.New (w : World) (base : Nat) (r : Rec) : Prop where
  h1 : Strs w r.a1 r.xs
  h2 : Strs w r.a2 r.ys
  n1 : ∀ x, r.a1 = some x → base ≤ x.block ∧ x.block < w.heap.size
  n2 : ∀ x, r.a2 = some x → base ≤ x.block ∧ x.block < w.heap.size
  s1 : SP r.a1
  s2 : SP r.a2
theorem Rec.New.later {w w' : World} {base : Nat} {r : Rec} (h : r.New w base) (hb : Below w.heap.size w w') : r.New w' base :=
  ⟨h.h1.later hb, h.h2.later hb, fun x hx => ⟨(h.n1 x hx).1, Nat.lt_of_lt_of_le (h.n1 x hx).2 hb.size⟩, fun x hx => ⟨(h.n2 x hx).1, Nat.lt_of_lt_of_le (h.n2 x hx).2 hb.size⟩, h.s1, h.s2⟩
theorem Rec.New.grown {w w' : World} {base b : Nat} {r : Rec} (h : r.New w base) (hg : w.grownBy w' (some b)) (hn : (∀ x, r.a1 = some x → x.block ≠ b) ∧ (∀ x, r.a2 = some x → x.block ≠ b)) : r.New w' base :=
  ⟨h.h1.frame fun x hx _ => hg.block _ (h.n1 x hx).2 (by have := hn.1 x hx; simpa using this), h.h2.frame fun x hx _ => hg.block _ (h.n2 x hx).2 (by have := hn.2 x hx; simpa using this), fun x hx => ⟨(h.n1 x hx).1, Nat.lt_of_lt_of_le (h.n1 x hx).2 hg.size⟩, fun x hx => ⟨(h.n2 x hx).1, Nat.lt_of_lt_of_le (h.n2 x hx).2 hg.size⟩, h.s1, h.s2⟩

theorem ncells_at : ∀ (l : List Rec) (j : Nat), (l.flatMap Rec.cells)[j]? = (l[j / 6]?).bind fun p => p.cells[j % 6]?
  | [], j => by simp
  | p :: t, j => by
    rw [List.flatMap_cons]
    by_cases h : j < 6
    · rw [List.getElem?_append_left (by simpa [Rec.cells] using h)]
      have e1 : j / 6 = 0 := by omega
      have e2 : j % 6 = j := by omega
      simp [e1, e2]
    · rw [List.getElem?_append_right (by simp [Rec.cells]; omega), ncells_at t]
      have e1 : j / 6 = (j - 6) / 6 + 1 := by omega
      have e2 : (j - 6) % 6 = j % 6 := by omega
      simp only [Rec.cells, List.length_cons, List.length_nil, Nat.reduceAdd, e2]
      rw [e1]
      rfl
theorem ncells_len : ∀ l : List Rec, (l.flatMap Rec.cells).length = l.length * 6
  | [] => rfl
  | p :: t => by rw [List.flatMap_cons, List.length_append, ncells_len t]; simp [Rec.cells]; omega
/-- A row of nodes, each with its own rows, from block base on. -/
def Nds (w : World) (base : Nat) (a : Option Addr) (l : List Rec) : Prop :=
  ∀ i r, l[i]? = some r → ∃ B, a = some ⟨B, 0, none⟩ ∧ base ≤ B ∧ B < w.heap.size ∧ NodeAt w B (i * 6) r ∧ r.New w base
theorem nds_of_own {w : World} {base g n cap : Nat} {l : List Rec} (h : w.ownsRow base 55 6 (.slice (some ⟨g, 0, none⟩) n cap) n (l.flatMap Rec.cells)) (hn : ∀ r ∈ l, r.New w base) : Nds w base (some ⟨g, 0, none⟩) l := by
  intro i r hr
  have hlt := h.lt g rfl
  refine ⟨g, rfl, hlt.1, hlt.2, ?_, hn r (List.mem_of_getElem? hr)⟩
  have hc : ∀ t u, r.cells[t]? = some u → w.cell? ⟨g, i * 6 + t, none⟩ = some u := fun t u hu => by
    have ht : t < 6 := by have := (List.getElem?_eq_some_iff.1 hu).1; simpa [Rec.cells] using this
    have := h.cells (g := g) rfl (i * 6 + t) u (by rw [ncells_at]; rw [show (i * 6 + t) / 6 = i by omega, show (i * 6 + t) % 6 = t by omega, hr]; exact hu)
    rwa [add_spot rfl, show (⟨g, 0, none⟩ : Addr).off + (i * 6 + t) = i * 6 + t by simp] at this
  exact ⟨hc 0 _ rfl, hc 1 _ rfl, hc 2 _ rfl, hc 3 _ rfl, hc 4 _ rfl, hc 5 _ rfl⟩

theorem infoN : (Tryz.prog.info? 55).map (fun i => (i.zero, i.size, i.bytes)) = some (some (.agg #[.string ByteArray.empty, .int .i64 0, .int .i64 0, .slice none 0 0, .slice none 0 0, .bool false]), 6, 88) := by kernel_rfl
theorem mk_nodes (n : Nat) (hn : n ≤ 1000) (w : World) :
    ∃ cur : Array Value, cur.size = n * 6 ∧ (Instr.makeSlice 84 (.int .i64 0) (.int .i64 n)).run Tryz.prog w = .ok (.slice (some ⟨w.heap.size, 0, none⟩) 0 n) (w.alloc (.cells cur 55)) := by
  obtain ⟨i0, hi, hz0, hz1, hz2⟩ := info_parts infoN
  have h := run_make (P := Tryz.prog) w 84 55 i0 _ Tryz.underlying84 hi hz0 .i64 .i64 0 n (by omega) (by omega) (by rw [hz2]; omega) (by omega)
  refine ⟨_, ?_, by simpa using h⟩
  rw [hz1]
  simp [madeCells, Value.cells]
theorem cells_new (w : World) (xs : List Value) (t : TypeId) (R : Nat) (hR : w.heap.size = R) : ∀ j u, xs[j]? = some u → (w.alloc (.cells xs.toArray t)).cell? ((⟨R, 0, none⟩ : Addr).add j) = some u := by
  intro j u hj
  rw [add_spot rfl]
  have := (Box.new w xs.toArray t hR).cell (i := j) (v := u) (by simpa using hj)
  simpa using this

theorem own_succ {w : World} {base : Nat} {t : TypeId} {z n : Nat} {v : Value} {xs : List Value} (h : w.ownsRow base t z v (n + 1) xs) : ∃ g cap, v = .slice (some ⟨g, 0, none⟩) (n + 1) cap := by
  rcases h.2 with ⟨_, h0⟩ | ⟨g, cap, _, h0, _⟩
  · omega
  · exact ⟨g, cap, h0⟩
theorem field_node (x0 x1 x2 x3 x4 x5 x6 x7 x8 : Value) (w : World) : (Instr.field 161 (.agg #[x0, x1, x2, x3, x4, x5, x6, x7, x8]) 0).run Tryz.prog w = .ok (.agg #[x0, x1, x2, x3, x4, x5]) w := by kernel_rfl

set_option maxRecDepth 100000 in
set_option maxHeartbeats 4000000 in
theorem nodes_any (w : World) (L : Nat) (fp : Nat → Prop) (p q : Option Nat) (E : List (ByteArray × Rec)) (G : List (Int × Grp)) (h : IsL w L fp p q E G) (hlen : E.length ≤ 1000) (hz : ∀ e ∈ E, e.1.size ≤ maxLen) :
    Calls Tryz.prog 95 #[.pointer (some ⟨L, 0, none⟩)] w fun e w' => ∃ g c l, e = .returned (.slice (some ⟨g, 0, none⟩) E.length c) ∧ Nds w' w.heap.size (some ⟨g, 0, none⟩) l ∧ l.map Rec.core = E.map (fun e => e.2.core) ∧ E.length ≤ c ∧ Below w.heap.size w w' := by
  obtain ⟨cur, hcur, hmk⟩ := mk_nodes E.length hlen w
  have hln := h.nodes.len
  have c0 : w.cell? ⟨L, 0, none⟩ = some (.map p) := h.box.cell rfl
  have c0a := fun o => cell_alloc c0 o
  have hI1 : IsL (w.alloc (.cells cur 55)) L fp p q E G := h.later (up (Below.refl _ _) _)
  have kk := keys_any p (w.alloc (.cells cur 55))
  have ks := sorted_any p E (w.alloc (.cells cur 55)) hI1.nodes hlen
  simp only [World.size_alloc] at kk ks
  go_enter Tryz.func95, Tryz.ntmps95
  go_wp2_with (first
    | (go_at_call 138; refine kk.mono ?_; rintro e w1 ⟨rfl, rfl⟩)
    | (go_at_call 137; refine ks.mono ?_; rintro e w2 ⟨aN, cN, rfl, hN, hNb, hb2⟩))
  have hb1 : Below w.heap.size w (w.alloc (.cells cur 55)) := up (Below.refl _ _) _
  have hbw2 : Below w.heap.size w w2 := hb1.trans (hb2.mono (by simp))
  have hrow0 : w2.ownsRow w.heap.size 55 6 (.slice (some ⟨w.heap.size, 0, none⟩) 0 E.length) 0 [] := (World.ownsRow_made w cur E.length (Nat.le_refl _) (by unfold maxLen; omega) hcur).kept (below_grown (by simpa using hb2) none) (.inr (by simp [Value.ownBlock]))
  obtain ⟨i0, hi, hz0, hz1, hz2⟩ := info_parts infoN
  have hN1000 := hN.1
  have hap := h.nodes.apart
  clear kk ks hln hmk c0 c0a hI1 hb1 hb2 hcur
  go_loopw [3, 19] (fun v i wr => ∃ (k : Nat) (g cap : Nat) (l : List Rec), k ≤ E.length ∧ i = .int .i64 k ∧ v = .slice (some ⟨g, 0, none⟩) k cap ∧ l.length = k ∧ l.map Rec.core = (E.take k).map (fun e => e.2.core) ∧ wr.ownsRow w.heap.size 55 6 v k (l.flatMap Rec.cells) ∧ (∀ r ∈ l, r.New wr w.heap.size ∧ (∀ x, r.a1 = some x → x.block ≠ g) ∧ (∀ x, r.a2 = some x → x.block ≠ g)) ∧ Strs wr aN (E.map (·.1)) ∧ Below w.heap.size w wr ∧ w2.heap.size ≤ wr.heap.size ∧ (∀ x, aN = some x → x.block ≠ g ∧ x.block < w2.heap.size)) (fun _ i _ => E.length - (intOf i).toNat)
  case atStart =>
    refine ⟨0, w.heap.size, E.length, [], Nat.zero_le _, rfl, rfl, rfl, by simp, hrow0, by simp, hN, hbw2, Nat.le_refl _, fun x hx => ?_⟩
    have := hNb x hx
    exact ⟨by omega, this.2⟩
  case round =>
    obtain ⟨k, g, cap, l, hk, rfl, rfl, hlk, hcore, hrow, hnew, hNr, hbw, hzs, hap2⟩ := hrel
    by_cases hlt : k < E.length
    · obtain ⟨x, rfl, hc⟩ := hNr.2 k (by simpa using hlt)
      have hmem : E[k] ∈ E := List.getElem_mem _
      have hcs : (E.map (·.1)).getD k ByteArray.empty = E[k].1 := by simp [List.getD, hlt]
      rw [hcs] at hc
      have htk : E.take (k + 1) = E.take k ++ [E[k]] := List.take_succ_eq_append_getElem hlt
      have hlo : look E E[k].1 = some E[k].2 := look_of_mem hap hmem
      have hIr := h.later hbw
      have hl1 := hIr.nodes.look1 E[k].1 (hz _ hmem)
      rw [hlo, Option.getD_some] at hl1
      have hok := hIr.okE _ hmem
      have hcore' : Hid ((E.take (k + 1)).map (fun e => e.2.core) = l.map Rec.core ++ [E[k].2.core]) := by
        show _ = _
        rw [htk, List.map_append, hcore]; rfl
      obtain ⟨e0, hE⟩ : ∃ e0, E[k] = e0 := ⟨_, rfl⟩
      rw [hE] at hc hl1 hok hcore'
      obtain ⟨s, r⟩ := e0
      clear hmem hcs htk hlo hE
      simp only at hc hl1 hok hcore'
      obtain ⟨nm', cpu', mem', a1', c1', xs', a2', c2', ys', cl', u, m, k'⟩ := r
      simp only [Rec.val] at hc hl1
      have kr := fresh_any nm' cpu' mem' a1' a2' xs'.length ys'.length c1' c2' cl' xs' ys' wr hok.h1 hok.h2 rfl rfl hok.s1 hok.s2
      have c0 : wr.cell? ⟨L, 0, none⟩ = some (.map p) := hIr.box.cell rfl
      have hgl := hrow.lt g rfl
      have hbs := hbw.size
      clear hok hIr hN
      have hfn := field_node
      go_wp2_with (first
        | (go_at_call 119; refine kr.mono ?_; rintro e w3 ⟨a3, c3, a4, c4, rfl, r1, r2, p1, p2, q1, q2, hb3⟩)
        | (at_builtin; refine wpList_append_own_at _ rfl _ _ 84 rfl w.heap.size 55 i0 _ 6 88 Tryz.underlying84 hi hz0 hz1 hz2 rfl (by decide) (.slice (some ⟨g, 0, none⟩) k cap) _ _ rfl ((hrow.kept (below_grown hb3 none) (.inr (by simp [Value.ownBlock]))).alloc _) ⟨_, 0, none⟩ 1 1 [.string nm', .int .i64 cpu', .int .i64 mem', .slice a3 xs'.length c3, .slice a4 ys'.length c4, .bool cl'] rfl rfl (cells_new _ _ _ _ rfl) (by intro u hu; simp only [List.mem_cons, List.not_mem_nil, or_false] at hu; rcases hu with rfl | rfl | rfl | rfl | rfl | rfl <;> rfl) (by unfold maxLen; omega) (by omega) (by have := hb3.size; simp; omega) ?_; intro v' w5 hown' hgrow hnil hat)
        | go_in)
      have z3 := hb3.size
      obtain ⟨g', cap', rfl⟩ := own_succ hown'
      have hg' : g' = g ∨ g' = w3.heap.size + 1 := by
        rcases hat with hat | hat
        · exact .inl (by simpa [Value.ownBlock] using hat)
        · exact .inr (by simpa [Value.ownBlock] using hat)
      have hgr : w3.grownBy w5 (some g) := grown_trans (below_grown (up (Below.refl _ _) _) _) hgrow
      have hnE : Rec.New w3 w.heap.size ⟨nm', cpu', mem', a3, c3, xs', a4, c4, ys', cl', 0, 0, 0⟩ := ⟨r1, r2, fun x hx => by have := q1 x hx; omega, fun x hx => by have := q2 x hx; omega, p1, p2⟩
      go_roundw
      case rel =>
        refine ⟨k + 1, g', cap', l ++ [⟨nm', cpu', mem', a3, c3, xs', a4, c4, ys', cl', 0, 0, 0⟩], hlt, by go_num, rfl, by simp [hlk], ?_, ?_, ?_, ?_, ?_, ?_, ?_⟩
        · rw [hcore'.out, List.map_append]; rfl
        · rw [List.flatMap_append]; simpa [Rec.cells] using hown'
        · intro r hr
          rcases List.mem_append.1 hr with hr | hr
          · obtain ⟨n0, n1, n2⟩ := hnew r hr
            refine ⟨(n0.later hb3).grown hgr ⟨n1, n2⟩, fun x hx => ?_, fun x hx => ?_⟩
            · have := n0.n1 x hx
              rcases hg' with rfl | rfl
              · exact n1 x hx
              · omega
            · have := n0.n2 x hx
              rcases hg' with rfl | rfl
              · exact n2 x hx
              · omega
          · simp only [List.mem_singleton] at hr
            subst hr
            have e1 : ∀ x, a3 = some x → x.block ≠ g := fun x hx => by have := q1 x hx; omega
            have e2 : ∀ x, a4 = some x → x.block ≠ g := fun x hx => by have := q2 x hx; omega
            refine ⟨hnE.grown hgr ⟨e1, e2⟩, fun x hx => ?_, fun x hx => ?_⟩
            · have := q1 x hx
              rcases hg' with rfl | rfl
              · exact e1 x hx
              · omega
            · have := q2 x hx
              rcases hg' with rfl | rfl
              · exact e2 x hx
              · omega
        · exact (hNr.later hb3).frame fun y hy hne => hgr.block _ ((hNr.later hb3).lt hy hne) (by have := (hap2 y hy).1; simpa using this)
        · exact (hbw.trans (hb3.mono hbw.size)).grown hgr (by have := hbw.size; omega) (fun j hj => by cases hj; exact hgl.1)
        · have := hgr.size; omega
        · intro y hy
          have := hap2 y hy
          rcases hg' with rfl | rfl
          · exact this
          · exact ⟨by omega, this.2⟩
      case measure => simp [intOf]; omega
    · have e1 : k = E.length := by omega
      clear hN hNr
      subst e1
      go_wp2
      go_ret
      have hcp : E.length ≤ cap := by
        rcases hrow.2 with ⟨h0, _⟩ | ⟨g', cap', cur', h0, _, _, h1, _⟩
        · cases h0
        · cases h0; exact h1
      exact ⟨g, cap, l, rfl, nds_of_own hrow (fun r hr => (hnew r hr).1), by rw [hcore, List.take_length], hcp, hbw⟩

end Go.Proofs.YthneemgpifbehaaGreatDoor
