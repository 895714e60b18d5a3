/- Rows of pods of the call's own. -/
import Derived.Test.YtgcicillmljglaaGG
namespace Go.Proofs.Ytgcicillmljglaa
open Go.RowKit Go.Maps

/-- A pod's seven cells. -/
def PodT.cells (p : PodT) : List Value := [.string p.name, .int .i64 p.shard, .int .i64 p.cpu, .int .i64 p.mem, .slice p.pa p.ps.length p.pc, .slice p.ba p.bs.length p.bc, .bool p.al]
/-- The cells of a row of pods. -/
def flat : List PodT → List Value
  | [] => []
  | p :: l => p.cells ++ flat l

theorem flat_length : ∀ l, (flat l).length = l.length * 7
  | [] => rfl
  | p :: l => by simp [flat, PodT.cells, flat_length l]; omega
theorem flat_append : ∀ l r, flat (l ++ r) = flat l ++ flat r
  | [], _ => rfl
  | p :: l, r => by simp [flat, flat_append l r]
theorem flat_one (p : PodT) : flat [p] = p.cells := by simp [flat]
theorem flat_get : ∀ (l : List PodT) (i j : Nat) (p : PodT), l[i]? = some p → j < 7 → (flat l)[i * 7 + j]? = p.cells[j]?
  | [], i, j, p, h, _ => by simp at h
  | q :: l, 0, j, p, h, hj => by
    simp at h
    subst h
    rw [flat, List.getElem?_append_left (by simp [PodT.cells]; omega)]
    simp
  | q :: l, i + 1, j, p, h, hj => by
    simp at h
    rw [flat, List.getElem?_append_right (by simp [PodT.cells]; omega)]
    have : (i + 1) * 7 + j - q.cells.length = i * 7 + j := by simp [PodT.cells]; omega
    rw [this]
    exact flat_get l i j p h hj

theorem infoPod : (Try.prog.info? 26).map (fun i => (i.zero, i.size, i.bytes)) = some (some (.agg #[.string ⟨#[]⟩, .int .i64 0, .int .i64 0, .int .i64 0, .slice none 0 0, .slice none 0 0, .bool false]), 7, 96) := by kernel_rfl

theorem own_cell {w : World} {base g n cap : Nat} {e : TypeId} {size : Nat} {xs : List Value} (h : w.ownsRow base e size (.slice (some ⟨g, 0, none⟩) n cap) n xs) (j : Nat) (u : Value) (hu : xs[j]? = some u) : w.cell? ⟨g, j, none⟩ = some u := by
  have := h.cells (g := g) rfl j u hu
  rcases Nat.eq_zero_or_pos j with rfl | hi
  · simpa [Addr.add] using this
  · simpa [Addr.add, show j ≠ 0 by omega] using this

theorem pods_of_own {w : World} {base : Nat} {v : Value} {n : Nat} {l : List PodT} (h : w.ownsRow base 26 7 v n (flat l)) (hok : ∀ p ∈ l, p.Ok w) (hl : l.length ≤ 1000) :
    ∃ a cap, v = .slice a n cap ∧ l.length = n ∧ n ≤ cap ∧ Pods w a l ∧ (a = none → cap = 0) ∧ (∀ x, a = some x → base ≤ x.block ∧ x = ⟨x.block, 0, none⟩) := by
  have hn : l.length = n := by have := h.1; rw [flat_length] at this; omega
  rcases h.2 with ⟨rfl, h0⟩ | ⟨g, cap, cur, rfl, hb, hh, hncap, hrest⟩
  · refine ⟨none, 0, by rw [h0], hn, by omega, ⟨hl, fun i p hp => ?_⟩, fun _ => rfl, (fun x hx => by cases hx)⟩
    have : l = [] := List.length_eq_zero_iff.1 (by omega)
    subst this
    simp at hp
  · refine ⟨some ⟨g, 0, none⟩, cap, rfl, hn, hncap, ⟨hl, fun i p hp => ⟨g, 0, rfl, ?_, hok p (List.mem_of_getElem? hp)⟩⟩, (fun h => by cases h), (fun x hx => by cases hx; exact ⟨hb, rfl⟩)⟩
    have hc := fun j (hj : j < 7) u (hu : p.cells[j]? = some u) => own_cell h (i * 7 + j) u (by rw [flat_get l i j p hp hj]; exact hu)
    rw [Nat.zero_add]
    exact ⟨hc 0 (by omega) _ rfl, hc 1 (by omega) _ rfl, hc 2 (by omega) _ rfl, hc 3 (by omega) _ rfl, hc 4 (by omega) _ rfl, hc 5 (by omega) _ rfl, hc 6 (by omega) _ rfl⟩

theorem cells_oneCell (p : PodT) : ∀ u ∈ p.cells, u.oneCell' = true := by
  intro u hu
  simp only [PodT.cells, List.mem_cons, List.not_mem_nil, or_false] at hu
  rcases hu with rfl | rfl | rfl | rfl | rfl | rfl | rfl <;> rfl

theorem cell_lit (w : World) (cs : Array Value) (t : TypeId) (R j : Nat) (v : Value) (hR : w.heap.size = R) (h : cs[j]? = some v) : (w.alloc (.cells cs t)).cell? ⟨R, j, none⟩ = some v := by
  subst hR
  simp [h]

/-- A block that was just made holds these cells. -/
theorem cells_new (w : World) (xs : List Value) (t : TypeId) (R : Nat) (hR : w.heap.size = R) : ∀ j u, xs[j]? = some u → (w.alloc (.cells xs.toArray t)).cell? ((⟨R, 0, none⟩ : Addr).add j) = some u := by
  intro j u hj
  have := cell_lit w xs.toArray t R j u hR (by simpa using hj)
  rcases Nat.eq_zero_or_pos j with rfl | hi
  · simpa [Addr.add] using this
  · simpa [Addr.add, show j ≠ 0 by omega] using this

/-- The block of a gang that is a variable. -/
def GBox (w : World) (G : Nat) (id : Int) (v : Value) : Prop := w.heap[G]? = some (.cells #[.int .i64 id, v] 47 (0, 0))

theorem GBox.new (w : World) (id : Int) (v : Value) : GBox (w.alloc (.cells #[.int .i64 id, v] 47)) w.heap.size id v := heap_alloc_new w _
theorem GBox.lt {w : World} {G : Nat} {id : Int} {v : Value} (h : GBox w G id v) : G < w.heap.size := (Array.getElem?_eq_some_iff.1 h).1
theorem GBox.cell0 {w : World} {G : Nat} {id : Int} {v : Value} (h : GBox w G id v) : w.cell? ⟨G, 0, none⟩ = some (.int .i64 id) := by
  unfold GBox at h; simp [World.cell?, h]
theorem GBox.cell1 {w : World} {G : Nat} {id : Int} {v : Value} (h : GBox w G id v) : w.cell? ⟨G, 1, none⟩ = some v := by
  unfold GBox at h; simp [World.cell?, h]
theorem GBox.frozen1 {w : World} {G : Nat} {id : Int} {v : Value} (h : GBox w G id v) (j : Nat) : w.frozen? ⟨G, j, none⟩ = false := by
  unfold GBox at h; simp [World.frozen?, h]
theorem GBox.grown {w w' : World} {G : Nat} {id : Int} {v : Value} {row : Option Nat} (h : GBox w G id v) (hg : w.grownBy w' row) (hne : some G ≠ row) : GBox w' G id v := by
  unfold GBox at *
  rw [hg.block G (Array.getElem?_eq_some_iff.1 h).1 hne, h]
theorem GBox.later {w w' : World} {G : Nat} {id : Int} {v : Value} (h : GBox w G id v) (hb : Below w.heap.size w w') : GBox w' G id v := by
  have := h.lt
  unfold GBox at *
  rw [hb.block G this, h]
theorem GBox.set {w : World} {G : Nat} {id : Int} {v : Value} (h : GBox w G id v) (u : Value) : GBox (w.setCell ⟨G, 1, none⟩ u) G id u := by
  unfold GBox at *
  rw [heap_setCell_same w G 1 _ _ u h]
  simp
theorem GBox.other {w : World} {G : Nat} {id : Int} {v : Value} (h : GBox w G id v) {a : Addr} (ha : G ≠ a.block) (u : Value) : GBox (w.setCell a u) G id v := by
  unfold GBox at *
  rw [Below.heap_setCell w a u G ha, h]

theorem own_slice {w : World} {base : Nat} {e : TypeId} {size : Nat} {v : Value} {n : Nat} {xs : List Value} (h : w.ownsRow base e size v n xs) (hn : 0 < n) : ∃ g cap, v = .slice (some ⟨g, 0, none⟩) n cap ∧ base ≤ g ∧ g < w.heap.size ∧ n ≤ cap ∧ cap ≤ maxLen := by
  rcases h.2 with ⟨_, h0⟩ | ⟨g, cap, cur, rfl, hb, hh, hncap, hm, _⟩
  · omega
  · exact ⟨g, cap, rfl, hb, (Array.getElem?_eq_some_iff.1 hh).1, hncap, hm⟩

theorem own_keep {w w' : World} {base : Nat} {e : TypeId} {size : Nat} {v : Value} {n : Nat} {xs : List Value} (h : w.ownsRow base e size v n xs) (hb : Below w.heap.size w w') : w'.ownsRow base e size v n xs := by
  refine ⟨h.1, ?_⟩
  rcases h.2 with h2 | ⟨g, cap, cur, hv, hg, hh, hrest⟩
  · exact .inl h2
  · refine .inr ⟨g, cap, cur, hv, hg, ?_, hrest⟩
    rw [← hh]
    exact hb.block g (Array.getElem?_eq_some_iff.1 hh).1

theorem own_frozen {w : World} {base g n cap : Nat} {e : TypeId} {size : Nat} {xs : List Value} (h : w.ownsRow base e size (.slice (some ⟨g, 0, none⟩) n cap) n xs) (j : Nat) : w.frozen? ⟨g, j, none⟩ = false := by
  rcases h.2 with ⟨h0, _⟩ | ⟨g', cap', cur, h0, hb, hh, _⟩
  · cases h0
  · injection h0 with h1 _ _
    injection h1 with h1
    injection h1 with h1 _ _
    subst h1
    simp [World.frozen?, hh]

theorem flat_set : ∀ (l : List PodT) (i : Nat) (p : PodT) (s : ByteArray), l[i]? = some p → flat (l.set i { p with name := s }) = (flat l).set (i * 7) (.string s)
  | [], i, p, s, h => by simp at h
  | q :: l, 0, p, s, h => by
    simp at h
    subst h
    simp [flat, PodT.cells]
  | q :: l, i + 1, p, s, h => by
    simp at h
    simp only [List.set_cons_succ, flat, flat_set l i p s h]
    rw [List.set_append_right _ _ (by simp [PodT.cells]; omega)]
    congr 2
    simp [PodT.cells]
    omega

end Go.Proofs.Ytgcicillmljglaa
