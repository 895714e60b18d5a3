/- What MarkSets needs besides: seven rows in a row; all that is held over a call. -/
import Derived.Test.YtkiamgfmclodmaaO
import Derived.Test.YtkiamgfmclodmaaS2
import Derived.Test.YtkiamgfmclodmaaS3
namespace Go.Proofs.Ytkiamgfmclodmaa
open Go.RowKit Go.Maps

theorem cell_new1 (w : World) (s : ByteArray) : (w.alloc (.cells #[.string s] 9)).cell? ⟨w.heap.size, 0, none⟩ = some (.string s) := by simp

/-- Texts of at most a hundred bytes. -/
abbrev Short (l : List ByteArray) : Prop := ∀ s ∈ l, s.size ≤ 100

theorem Short.nil : Short [] := fun _ h => by cases h
theorem Short.snoc {l : List ByteArray} {s : ByteArray} (h : Short l) (hs : s.size ≤ 100) : Short (l ++ [s]) := fun x hx => by
  rcases List.mem_append.1 hx with hx | hx
  · exact h x hx
  · simp only [List.mem_singleton] at hx
    subst hx
    exact hs
theorem Short.set {l : List ByteArray} {s : ByteArray} (h : Short l) (hs : s.size ≤ 100) (j : Nat) : Short (l.set j s) := fun x hx => by
  rcases List.mem_or_eq_of_mem_set hx with hx | hx
  · exact h x hx
  · subst hx
    exact hs

/-- Rows of texts, in a row. -/
def RowsOk (w : World) (R : Nat) (L : List (Option Addr × List ByteArray × Nat)) : Prop :=
  ∀ j p, L[j]? = some p → w.cell? ⟨R, j, none⟩ = some (.slice p.1 p.2.1.length p.2.2) ∧ Strs w p.1 p.2.1 ∧ Short p.2.1

theorem RowsOk.later {w w1 : World} {R : Nat} {L : List (Option Addr × List ByteArray × Nat)} (h : RowsOk w R L) (hb : Below w.heap.size w w1) : RowsOk w1 R L :=
  fun j p hp => by
    obtain ⟨h1, h2, h3⟩ := h j p hp
    exact ⟨cell_below hb h1 (block_lt h1), h2.later hb, h3⟩

/-- Five marks. -/
def fiveL : List ByteArray := [⟨#[97]⟩, ⟨#[98]⟩, ⟨#[99]⟩, ⟨#[100]⟩, ⟨#[101]⟩]
/-- Four. -/
def fourL : List ByteArray := [⟨#[97]⟩, ⟨#[98]⟩, ⟨#[99]⟩, ⟨#[100]⟩]

theorem short_five : Short fiveL := by decide
theorem short_four : Short fourL := by decide

theorem strs_lit (w : World) (l : List ByteArray) (hl : l.length ≤ 1000) : Strs (w.alloc (.cells (l.map Value.string).toArray 9)) (some ⟨w.heap.size, 0, none⟩) l := by
  have h : (w.alloc (.cells (l.map Value.string).toArray 9)).ownsRow 0 9 1 (.slice (some ⟨w.heap.size, 0, none⟩) l.length l.length) l.length (l.map Value.string) := by
    have := World.ownsRow_lit (base := 0) (e := 9) (size := 1) w (l.map Value.string).toArray l.length (Nat.zero_le _) (by unfold maxLen; omega) (by simp)
    simpa using this
  obtain ⟨a, c, he, hS, _⟩ := strs_of_own h hl
  cases he
  exact hS

theorem cell_lit (w : World) (cs : Array Value) (t : TypeId) (R j : Nat) (v : Value) (hR : w.heap.size = R) (h : cs[j]? = some v) : (w.alloc (.cells cs t)).cell? ⟨R, j, none⟩ = some v := by
  subst hR
  simp [h]

theorem rows_new (ws : World) (a1 a2 a3 a5 : Option Addr) (xs ys zs ss : List ByteArray) (c1 c2 c3 c5 : Nat) (h1 : Strs ws a1 xs) (h2 : Strs ws a2 ys) (h3 : Strs ws a3 zs) (h5 : Strs ws a5 ss) (s1 : Short xs) (s2 : Short ys) (s3 : Short zs) (s5 : Short ss) :
    RowsOk (((ws.alloc (.cells #[.string ⟨#[97]⟩, .string ⟨#[98]⟩, .string ⟨#[99]⟩, .string ⟨#[100]⟩, .string ⟨#[101]⟩] 9)).alloc (.cells #[.string ⟨#[97]⟩, .string ⟨#[98]⟩, .string ⟨#[99]⟩, .string ⟨#[100]⟩] 9)).alloc
      (.cells #[.slice a1 xs.length c1, .slice a2 ys.length c2, .slice a3 zs.length c3, .slice none 0 0, .slice a5 ss.length c5, .slice (some ⟨ws.heap.size, 0, none⟩) 5 5, .slice (some ⟨ws.heap.size + 1, 0, none⟩) 4 4] 26)) (ws.heap.size + 1 + 1)
      [(a1, xs, c1), (a2, ys, c2), (a3, zs, c3), (none, [], 0), (a5, ss, c5), (some ⟨ws.heap.size, 0, none⟩, fiveL, 5), (some ⟨ws.heap.size + 1, 0, none⟩, fourL, 4)] := by
  have hA : ∀ o1 o2 o3, Below ws.heap.size ws (((ws.alloc o1).alloc o2).alloc o3) := fun o1 o2 o3 => (((Below.refl _ _).alloc (Nat.le_refl _) _).alloc (by simp) _).alloc (by simp; omega) _
  have g5 := strs_lit ws fiveL (by decide)
  have g4 := fun o => strs_lit (ws.alloc o) fourL (by decide)
  intro j p hp
  rcases (by
    have : j < 7 := by
      rcases Nat.lt_or_ge j 7 with h | h
      · exact h
      · rw [List.getElem?_eq_none (by simpa using h)] at hp; cases hp
    omega : j = 0 ∨ j = 1 ∨ j = 2 ∨ j = 3 ∨ j = 4 ∨ j = 5 ∨ j = 6) with rfl | rfl | rfl | rfl | rfl | rfl | rfl
  all_goals
    simp only [List.getElem?_cons_zero, List.getElem?_cons_succ, Option.some.injEq] at hp
    subst hp
  · exact ⟨cell_lit _ _ _ _ _ _ (by simp) rfl, h1.later (hA _ _ _), s1⟩
  · exact ⟨cell_lit _ _ _ _ _ _ (by simp) rfl, h2.later (hA _ _ _), s2⟩
  · exact ⟨cell_lit _ _ _ _ _ _ (by simp) rfl, h3.later (hA _ _ _), s3⟩
  · exact ⟨cell_lit _ _ _ _ _ _ (by simp) rfl, strs_nil _, Short.nil⟩
  · exact ⟨cell_lit _ _ _ _ _ _ (by simp) rfl, h5.later (hA _ _ _), s5⟩
  · exact ⟨cell_lit _ _ _ _ _ _ (by simp) rfl, g5.later (((Below.refl _ _).alloc (Nat.le_refl _) _).alloc (by simp) _), short_five⟩
  · refine ⟨cell_lit _ _ _ _ _ _ (by simp) rfl, ?_, short_four⟩
    have := (g4 (.cells #[.string ⟨#[97]⟩, .string ⟨#[98]⟩, .string ⟨#[99]⟩, .string ⟨#[100]⟩, .string ⟨#[101]⟩] 9)).later ((Below.refl _ _).alloc (Nat.le_refl _) (.cells #[.slice a1 xs.length c1, .slice a2 ys.length c2, .slice a3 zs.length c3, .slice none 0 0, .slice a5 ss.length c5, .slice (some ⟨ws.heap.size, 0, none⟩) 5 5, .slice (some ⟨ws.heap.size + 1, 0, none⟩) 4 4] 26))
    simpa [fourL] using this

/-- All that is held over a call. -/
structure Pack (w0 : World) (a1 a2 : Option Addr) (xs ys : List ByteArray) (R : Nat) (L : List (Option Addr × List ByteArray × Nat)) (W : World) : Prop where
  below : Below w0.heap.size w0 W
  s1 : Strs W a1 xs
  s2 : Strs W a2 ys
  rows : RowsOk W R L

theorem Pack.later {w0 W w1 : World} {a1 a2 : Option Addr} {xs ys : List ByteArray} {R : Nat} {L : List (Option Addr × List ByteArray × Nat)} (h : Pack w0 a1 a2 xs ys R L W) (hb : Below W.heap.size W w1) : Pack w0 a1 a2 xs ys R L w1 :=
  ⟨h.below.trans (hb.mono h.below.size), h.s1.later hb, h.s2.later hb, h.rows.later hb⟩

theorem packed {F : Nat} {args : Array Value} {v u : Value} {a : Addr} {w0 W : World} {a1 a2 : Option Addr} {xs ys : List ByteArray} {R : Nat} {L : List (Option Addr × List ByteArray × Nat)} (h : Calls Try.prog F args W fun e w' => e = .returned v ∧ Below W.heap.size W w')
    (hc : W.cell? a = some u) (hP : Pack w0 a1 a2 xs ys R L W) : Calls Try.prog F args W fun e w' => e = .returned v ∧ w'.cell? a = some u ∧ Pack w0 a1 a2 xs ys R L w' :=
  h.mono fun _ _ h => ⟨h.1, cell_below h.2 hc (block_lt hc), hP.later h.2⟩

theorem rSet_is (a : Option Addr) (n c : Nat) (ss : List ByteArray) (b : Bool) (W : World) (h : Strs W a ss) (e : ss.length = n) (hz : ∀ i, (ss.getD i ByteArray.empty).size ≤ maxLen) (hb : setB ss = b) :
    Calls Try.prog 19 #[.slice a n c] W fun e w' => e = .returned (.bool b) ∧ Below W.heap.size W w' := by
  subst e hb
  exact rSet_any a c ss W h hz

theorem rAll_is (a1 a2 : Option Addr) (n1 n2 c1 c2 : Nat) (of l : List ByteArray) (b : Bool) (W : World) (h1 : Strs W a1 of) (h2 : Strs W a2 l) (e1 : of.length = n1) (e2 : l.length = n2) (hb : allB of l = b) :
    Calls Try.prog 21 #[.slice a1 n1 c1, .slice a2 n2 c2] W fun e w' => e = .returned (.bool b) ∧ Below W.heap.size W w' := by
  subst e1 e2 hb
  refine (rAll_any a1 c1 of a2 c2 l W h1 h2).mono fun e w' h => ⟨h.1, ?_⟩
  rw [h.2]
  exact Below.refl _ _

end Go.Proofs.Ytkiamgfmclodmaa
