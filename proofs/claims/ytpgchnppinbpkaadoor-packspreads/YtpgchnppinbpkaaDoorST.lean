/- Names in a row: parts of it, one put together anew. -/
import Derived.Test.YtpgchnppinbpkaaDoorES
import Derived.Laws.OwnMore
namespace Go.Proofs.YtpgchnppinbpkaaDoor
open Go.RowKit Go.Maps

theorem add_add (x : Addr) (k i : Nat) : (x.add k).add i = x.add (k + i) := by
  unfold Addr.add
  by_cases hk : k = 0
  · subst hk; simp
  · by_cases hi : i = 0
    · subst hi; simp
    · simp [hk, hi, Nat.add_assoc]
theorem Strs.take {w : World} {a : Option Addr} {ss : List ByteArray} (h : Strs w a ss) (k : Nat) : Strs w a (ss.take k) :=
  ⟨by have := h.1; simp; omega, fun i hi => by
    simp only [List.length_take] at hi
    obtain ⟨x, hx, hc⟩ := h.2 i (by omega)
    refine ⟨x, hx, ?_⟩
    rw [hc]
    simp [(show i < k by omega)]⟩
theorem Strs.drop {w : World} {a : Option Addr} {ss : List ByteArray} (h : Strs w a ss) (k c : Nat) (hc : ss.length ≤ c) : Strs w (if c = k then a else a.map (fun x => x.add k)) (ss.drop k) :=
  ⟨by have := h.1; simp; omega, fun i hi => by
    simp only [List.length_drop] at hi
    obtain ⟨x, hx, hcl⟩ := h.2 (k + i) (by omega)
    rw [if_neg (by omega), hx]
    refine ⟨_, rfl, ?_⟩
    rw [add_add, hcl]
    simp⟩
theorem strs_one {w : World} {x : Addr} {s : ByteArray} (h : w.cell? x = some (.string s)) : Strs w (some x) [s] :=
  ⟨by simp, fun i hi => by
    simp only [List.length_singleton] at hi
    obtain rfl : i = 0 := by omega
    exact ⟨x, rfl, by simpa [Addr.add] using h⟩⟩
theorem strs_own {w : World} {base : Nat} {v : Value} {n : Nat} {ss : List ByteArray} (h : w.ownsRow base 9 1 v n (ss.map Value.string)) (hl : ss.length ≤ 1000) : ∃ a cap, v = .slice a ss.length cap ∧ Strs w a ss ∧ (a = none → cap = 0) ∧ ss.length ≤ cap ∧ ∀ x, a = some x → base ≤ x.block ∧ x.block < w.heap.size := by
  have hn : ss.length = n := by have := h.1; simpa using this
  rcases h.2 with ⟨rfl, h0⟩ | ⟨g, cap, cur, rfl, hb, hh, hncap, hrest⟩
  · refine ⟨none, 0, by rw [hn, h0], ⟨hl, fun i hi => by omega⟩, fun _ => rfl, by omega, fun x hx => by cases hx⟩
  · refine ⟨some ⟨g, 0, none⟩, cap, by rw [hn], ⟨hl, fun i hi => ⟨_, rfl, ?_⟩⟩, (fun h => by cases h), by omega, fun x hx => by cases hx; exact ⟨hb, (Array.getElem?_eq_some_iff.1 hh).1⟩⟩
    refine h.cells (g := g) rfl i _ ?_
    simp [List.getElem?_eq_getElem hi]
theorem strings_cell (ts : List ByteArray) : ∀ u ∈ ts.map Value.string, u.oneCell' = true := by
  intro u hu
  obtain ⟨s, _, rfl⟩ := List.mem_map.1 hu
  rfl
theorem strs_cells {w : World} {x : Addr} {ts : List ByteArray} (h : Strs w (some x) ts) : ∀ j u, (ts.map Value.string)[j]? = some u → w.cell? (x.add j) = some u := by
  intro j u hu
  have hj : j < ts.length := by
    rcases Nat.lt_or_ge j ts.length with h' | h'
    · exact h'
    · rw [List.getElem?_eq_none (by simpa using h')] at hu; cases hu
  obtain ⟨x', hx, hc⟩ := h.2 j hj
  cases hx
  rw [hc]
  simp [List.getElem?_eq_getElem hj] at hu ⊢
  exact hu

/-- One row behind the other, at a step of a region that draws its order. -/
theorem step_append {w : World} {ops : Array Oper} {o : Oper} {a : Act} {K : Act → World → Prop} {Q : Exit → Act → World → Prop} {E : Prop} (hgd : o.guard = none) (s x : Operand)
    (ho : o.op = .call { callee := .builtin .append, args := #[s, x], argTypes := #[41, 41] })
    (base : Nat) (v : Value) (n : Nat) (xs : List ByteArray) (hs : a.eval s = v) (hown : w.ownsRow base 9 1 v n (xs.map Value.string))
    (ad : Option Addr) (m c : Nat) (ts : List ByteArray) (hx : a.eval x = .slice ad m c) (hS : Strs w ad ts) (hm : ts.length = m) (hc : ad = none → c = 0) (hl : xs.length ≤ 1000) (hbase : base ≤ w.heap.size)
    (h : ∀ v' w', w'.ownsRow base 9 1 v' (n + m) ((xs ++ ts).map Value.string) → w.grownBy w' v.ownBlock → (∀ j, v.ownBlock = some j → base ≤ j) → K (a.put o.dst v') w') :
    if Region.wanted o (yielded ops a.tmps) = true then Oper.wp Tryd.prog o a w K Q else E := by
  have hw : Region.wanted o (yielded ops a.tmps) = true := by simp [Region.wanted, hgd]
  rw [if_pos hw]
  obtain ⟨i0, hi, hz0, hz1, hz2⟩ := info_parts info9
  have hn : xs.length = n := by have := hown.1; simpa using this
  have h1000 := hS.1
  cases ad with
  | none =>
    have hm0 : m = 0 := by
      rcases Nat.eq_zero_or_pos m with h0 | h0
      · exact h0
      · obtain ⟨x, hx, _⟩ := hS.2 0 (by omega)
        cases hx
    have ht : ts = [] := List.length_eq_zero_iff.1 (by omega)
    rw [hm0, hc rfl] at hx
    have hrun := run_append_owned_none (P := Tryd.prog) (w := w) base 41 o.type 9 i0 1 Tryd.underlying41 hi v n _ hown
    unfold Oper.wp
    simp [execOp, ho, resolve, invoke, builtin, hs, hx, hrun, Result.andThen]
    refine h v w ?_ ?_ (fun j hj => (hown.lt j hj).1)
    · rw [hm0, ht, List.append_nil]; exact hown
    · exact World.grownBy.refl _ _
  | some ad =>
    refine wp_append_own w s x 41 ho base 9 i0 (.string ByteArray.empty) 1 16 Tryd.underlying41 hi hz0 hz1 hz2 rfl (by decide) v n (xs.map Value.string) hs hown ad m c (ts.map Value.string) hx (by simp [hm]) (strs_cells hS) (strings_cell ts) (by unfold maxLen; omega) (by omega) hbase ?_
    intro v' w' h1 h2 _
    exact h v' w' (by rw [List.map_append]; exact h1) h2 (fun j hj => (hown.lt j hj).1)

theorem own_zero {w : World} {base g : Nat} (h : w.heap[g]? = some (.cells #[] 9)) (hb : base ≤ g) : w.ownsRow base 9 1 (.slice (some ⟨g, 0, none⟩) 0 0) 0 (([] : List ByteArray).map Value.string) :=
  ⟨rfl, .inr ⟨g, 0, #[], rfl, hb, h, Nat.le_refl _, Nat.zero_le _, rfl, rfl⟩⟩
theorem hz1 (w : World) (o : Obj) : (w.alloc o).drew.heap[w.heap.size]? = some o := by
  show (w.heap.push o)[w.heap.size]? = some o
  simp
theorem hz2 (w : World) (o o' : Obj) : ((w.alloc o).alloc o').drew.heap[w.heap.size]? = some o := by
  show ((w.heap.push o).push o')[w.heap.size]? = some o
  rw [Array.getElem?_push_lt (by simp)]
  simp
theorem hz3 (w : World) (o o' : Obj) : ((w.alloc o).alloc o').drew.heap[w.heap.size + 1]? = some o' := by
  show ((w.heap.push o).push o')[w.heap.size + 1]? = some o'
  have : w.heap.size + 1 = (w.heap.push o).size := by simp
  rw [this, Array.getElem?_push_size]
theorem cz1 (w : World) (s : ByteArray) : (w.alloc (.cells #[.string s] 9)).cell? ⟨w.heap.size, 0, none⟩ = some (.string s) := by simp
theorem cz2 (w : World) (o : Obj) (s : ByteArray) : ((w.alloc o).alloc (.cells #[.string s] 9)).drew.cell? ⟨w.heap.size + 1, 0, none⟩ = some (.string s) := by simp
theorem cz3 (w : World) (o : Obj) (s : ByteArray) : ((w.alloc (.cells #[.string s] 9)).alloc o).drew.cell? ⟨w.heap.size, 0, none⟩ = some (.string s) := by
  have h : (w.alloc (.cells #[.string s] 9)).cell? ⟨w.heap.size, 0, none⟩ = some (.string s) := by simp
  exact cell_alloc h o

/-- Where the search stands. -/
theorem at_no {s : ByteArray} {l : List ByteArray} {t : Nat} (h : t ≤ atN s l) (ht : t < l.length) (hq : sb s (l.getD t ByteArray.empty) = false) : t + 1 ≤ atN s l := by
  rcases Nat.lt_or_ge t (atN s l) with h1 | h1
  · exact h1
  · have e : t = atN s l := by omega
    have := atN_at s l (by omega)
    subst e
    simp [List.getD, List.getElem?_eq_getElem ht, this] at hq
theorem at_yes {s : ByteArray} {l : List ByteArray} {t : Nat} (h : t ≤ atN s l) (ht : t < l.length) (hq : sb s (l.getD t ByteArray.empty) = true) : atN s l = t := by
  rcases Nat.lt_or_ge t (atN s l) with h1 | h1
  · have := atN_lt s l t ht h1
    simp [List.getD, List.getElem?_eq_getElem ht, this] at hq
  · omega
theorem inB_iff {s : ByteArray} {l : List ByteArray} : inB l s = true ↔ s ∈ l := by
  unfold inB
  rw [List.any_eq_true]
  constructor
  · rintro ⟨t, ht, h⟩
    have h := eq_of_beq h
    rw [ByteArray.toList_eq, ByteArray.toList_eq] at h
    obtain ⟨⟨a⟩⟩ := t
    obtain ⟨⟨b⟩⟩ := s
    cases (show a = b from h)
    exact ht
  · intro h
    exact ⟨s, h, by simp⟩
theorem has_more {s : ByteArray} {l : List ByteArray} {t : Nat} (ht : t < l.length) : inB (l.take (t + 1)) s = (inB (l.take t) s || ((l.getD t ByteArray.empty).toList == s.toList)) := by
  unfold inB
  rw [List.take_add_one, List.any_append]
  simp [List.getD, List.getElem?_eq_getElem ht]
theorem has_all {s : ByteArray} {l : List ByteArray} (hr : Rises l) : inB (l.take (atN s l)) s = inB l s := by
  rw [Bool.eq_iff_iff, inB_iff, inB_iff]
  exact (has_front hr s).symm
theorem look_has {s : ByteArray} {M : List (ByteArray × Rec)} : look M s = none ↔ inB (M.map (·.1)) s = false := by
  rw [← Bool.not_eq_true, inB_iff, ← look_iff]
  simp

end Go.Proofs.YtpgchnppinbpkaaDoor
