/- What MarkOrder needs besides: appending at a step of a region that draws its order; parts of a row; the facts of the sets. -/
import Derived.Test.YtkiamgfmclodmaaWAll
namespace Go.Proofs.Ytkiamgfmclodmaa
open Go.RowKit Go.Maps

theorem set_is (a : Option Addr) (n c : Nat) (ss : List ByteArray) (b : Bool) (W : World) (h : Strs W a ss) (e : ss.length = n) (hb : setB ss = b) :
    Calls Try.prog 18 #[.slice a n c] W fun e w' => e = .returned (.bool b) ∧ Below W.heap.size W w' := by
  subst e hb
  exact set_any a c ss W h

theorem lSet_len (n : Int) (ss : List ByteArray) (N : Nat) (h : marksTo n 4 = ss) (hN : ss.length = N) (w : World) :
    Calls Try.prog 17 #[.int .i64 n] w fun e w' => ∃ a cap, e = .returned (.slice a N cap) ∧ N ≤ cap ∧ Strs w' a ss ∧ Below w.heap.size w w' := by
  subst hN
  exact (lSet_is n ss h w).mono fun e w' ⟨a, cap, he, hS, _, hc, hb⟩ => ⟨a, cap, he, hc, hS, hb⟩

theorem strs_one {w : World} {x : Addr} {s : ByteArray} (h : w.cell? x = some (.string s)) : Strs w (some x) [s] :=
  ⟨by simp, fun i hi => by
    simp only [List.length_singleton] at hi
    obtain rfl : i = 0 := by omega
    exact ⟨x, rfl, by simpa [Addr.add] using h⟩⟩

theorem strs_take {w : World} {a : Option Addr} {ss : List ByteArray} (h : Strs w a ss) (k : Nat) : Strs w a (ss.take k) :=
  ⟨by have := h.1; simp; omega, fun i hi => by
    simp only [List.length_take] at hi
    obtain ⟨x, hx, hc⟩ := h.2 i (by omega)
    refine ⟨x, hx, ?_⟩
    rw [hc]
    simp [(show i < k by omega)]⟩

theorem strs_drop {w : World} {x : Addr} {ss : List ByteArray} (h : Strs w (some x) ss) (k : Nat) : Strs w (some ⟨x.block, x.off + (k + 1), none⟩) (ss.drop (k + 1)) :=
  ⟨by have := h.1; simp; omega, fun i hi => by
    simp only [List.length_drop] at hi
    obtain ⟨x', hx, hc⟩ := h.2 (k + 1 + i) (by omega)
    cases hx
    refine ⟨_, rfl, ?_⟩
    rw [show (⟨x.block, x.off + (k + 1), none⟩ : Addr).add i = x.add (k + 1 + i) by
      unfold Addr.add
      split
      · next h => subst h; simp
      · simp; omega]
    rw [hc]
    simp⟩

/-- The same as append_strs, at a step of a region that draws its order. -/
theorem step_append_strs {w : World} {ops : Array Oper} {o : Oper} {a : Act} {K : Act → World → Prop} {Q : Exit → Act → World → Prop} {E : Prop} (hgd : o.guard = none) (s x : Operand)
    (ho : o.op = .call { callee := .builtin .append, args := #[s, x], argTypes := #[26, 26] })
    (base : Nat) (v : Value) (n : Nat) (xs : List ByteArray) (hs : a.eval s = v) (hown : w.ownsRow base 9 1 v n (xs.map Value.string))
    (ad : Addr) (m c : Nat) (ts : List ByteArray) (hx : a.eval x = .slice (some ad) m c) (hS : Strs w (some ad) ts) (hm : ts.length = m) (hl : xs.length ≤ 1000) (hbase : base ≤ w.heap.size)
    (h : ∀ v' w', w'.ownsRow base 9 1 v' (n + m) ((xs ++ ts).map Value.string) → w.grownBy w' v.ownBlock → (∀ j, v.ownBlock = some j → base ≤ j) → K (a.put o.dst v') w') :
    if Region.wanted o (yielded ops a.tmps) = true then Oper.wp Try.prog o a w K Q else E := by
  have hw : Region.wanted o (yielded ops a.tmps) = true := by simp [Region.wanted, hgd]
  rw [if_pos hw]
  obtain ⟨i0, hi, hz0, hz1, hz2⟩ := info_parts info9
  have hn : xs.length = n := by have := hown.1; simpa using this
  have h1000 := hS.1
  refine wp_append_own w s x 26 ho base 9 i0 (.string ⟨#[]⟩) 1 16 Try.underlying26 hi hz0 hz1 hz2 rfl (by decide) v n (xs.map Value.string) hs hown ad m c (ts.map Value.string) hx (by simp [hm]) (strs_news hS) (strings_oneCell ts) (by unfold maxLen; omega) (by omega) hbase ?_
  intro v' w' h1 h2 _
  exact h v' w' (by rw [List.map_append]; exact h1) h2 (fun j hj => (hown.lt j hj).1)

/-- A row with the one at k twice. -/
def twiceL (ss : List ByteArray) (k : Nat) : List ByteArray := ss.take (k + 1) ++ [ss.getD k ByteArray.empty] ++ ss.drop (k + 1)

/-- What the statement asks of a set. -/
def orderOk (ss : List ByteArray) (k : Nat) : Bool :=
  setB ss && (!decide (k < ss.length) || (!setB (twiceL ss k) && (setB ss.reverse == decide (ss.length = 1)) && allB ss.reverse ss && allB ss ss.reverse && allB (twiceL ss k) ss))
theorem orders : ((List.range 16).all fun i => (List.range 4).all fun k => orderOk (marksTo (i : Int) 4) k) = true := by decide +kernel
theorem order_of (n : Int) (k : Nat) (hk : k < 4) : orderOk (marksTo n 4) k = true := by
  have h := List.all_eq_true.1 (List.all_eq_true.1 orders (n % 16).toNat (List.mem_range.2 (by omega))) k (List.mem_range.2 hk)
  rw [Int.toNat_of_nonneg (by omega)] at h
  rw [marks_rest n]
  exact h

end Go.Proofs.Ytkiamgfmclodmaa
