/- A row of pods that is written to: what stays. -/
import Derived.Test.YtgcicillmljglaaSF
namespace Go.Proofs.Ytgcicillmljglaa
open Go.RowKit Go.Maps

/-- Texts that may be written to, not in this block. -/
def Soft (B g : Nat) (w : World) (a : Option Addr) (n : Nat) : Prop :=
  ∀ j, j < n → ∃ b, a = some ⟨b, 0, none⟩ ∧ b ≠ g ∧ B ≤ b ∧ (∃ s, w.cell? ⟨b, j, none⟩ = some (.string s)) ∧ ∀ j, w.frozen? ⟨b, j, none⟩ = false

/-- A row of pods whose names and marks may be written to. -/
structure Wk (B g : Nat) (w : World) (l : List PodT) : Prop where
  low : B ≤ g
  free : ∀ j, w.frozen? ⟨g, j, none⟩ = false
  name : ∀ (i : Nat) (p : PodT), l[i]? = some p → ∃ s, w.cell? ⟨g, i * 7, none⟩ = some (.string s)
  picks : ∀ (i : Nat) (p : PodT), l[i]? = some p → w.cell? ⟨g, i * 7 + 4, none⟩ = some (.slice p.pa p.ps.length p.pc)
  bears : ∀ (i : Nat) (p : PodT), l[i]? = some p → w.cell? ⟨g, i * 7 + 5, none⟩ = some (.slice p.ba p.bs.length p.bc)
  soft1 : ∀ (i : Nat) (p : PodT), l[i]? = some p → Soft B g w p.pa p.ps.length
  soft2 : ∀ (i : Nat) (p : PodT), l[i]? = some p → Soft B g w p.ba p.bs.length
  len : ∀ (i : Nat) (p : PodT), l[i]? = some p → p.ps.length ≤ 1000 ∧ p.bs.length ≤ 1000

theorem frozen_set (w : World) (a b : Addr) (v : Value) : (w.setCell a v).frozen? b = w.frozen? b := by simp
theorem str_set {w : World} {p q : Addr} {s0 t : ByteArray} (hp : w.cell? p = some (.string s0)) (h : ∃ s, w.cell? q = some (.string s)) : ∃ s, (w.setCell p (.string t)).cell? q = some (.string s) := by
  rcases Decidable.em (q = p) with rfl | hne
  · exact ⟨t, World.cell?_setCell_same _ _ _ hp⟩
  · obtain ⟨s, hs⟩ := h
    exact ⟨s, by rw [World.cell?_setCell_other _ _ _ _ (by first | exact hne | exact Ne.symm hne)]; exact hs⟩

section
variable {B g : Nat} {w w' : World} {l : List PodT}
theorem Soft.set {a : Option Addr} {n : Nat} {p : Addr} {s0 t : ByteArray} (h : Soft B g w a n) (hp : w.cell? p = some (.string s0)) : Soft B g (w.setCell p (.string t)) a n := fun j hj => by
  obtain ⟨b, h1, h2, h3, h4, h5⟩ := h j hj
  exact ⟨b, h1, h2, h3, str_set hp h4, fun j => by rw [frozen_set]; exact h5 j⟩
theorem Soft.later {a : Option Addr} {n : Nat} (h : Soft B g w a n) (hb : Below w.heap.size w w') : Soft B g w' a n := fun j hj => by
  obtain ⟨b, h1, h2, h3, ⟨s, h4⟩, h5⟩ := h j hj
  have hlt : b < w.heap.size := block_lt h4
  exact ⟨b, h1, h2, h3, ⟨s, cell_below hb h4 hlt⟩, fun j => by rw [frozen_block (hb.block b hlt)]; exact h5 j⟩
theorem Wk.set {p : Addr} {s0 t : ByteArray} (h : Wk B g w l) (hp : w.cell? p = some (.string s0)) : Wk B g (w.setCell p (.string t)) l := by
  have keep : ∀ q v, (∀ s, v ≠ Value.string s) → w.cell? q = some v → (w.setCell p (.string t)).cell? q = some v := fun q v hv hq => by
    have hne : q ≠ p := fun e => by subst e; rw [hp] at hq; exact hv s0 (Option.some.inj hq).symm
    rw [World.cell?_setCell_other _ _ _ _ (by first | exact hne | exact Ne.symm hne)]; exact hq
  exact ⟨h.low, fun j => by rw [frozen_set]; exact h.free j, fun i q hq => str_set hp (h.name i q hq), fun i q hq => keep _ _ (fun s e => by cases e) (h.picks i q hq), fun i q hq => keep _ _ (fun s e => by cases e) (h.bears i q hq), fun i q hq => (h.soft1 i q hq).set hp, fun i q hq => (h.soft2 i q hq).set hp, h.len⟩
theorem Wk.later (h : Wk B g w l) (hg : g < w.heap.size) (hb : Below w.heap.size w w') : Wk B g w' l := by
  have keep : ∀ q v, w.cell? q = some v → w'.cell? q = some v := fun q v hq => cell_below hb hq (block_lt hq)
  exact ⟨h.low, fun j => by rw [frozen_block (hb.block g hg)]; exact h.free j, fun i q hq => by obtain ⟨s, hs⟩ := h.name i q hq; exact ⟨s, keep _ _ hs⟩, fun i q hq => keep _ _ (h.picks i q hq), fun i q hq => keep _ _ (h.bears i q hq), fun i q hq => (h.soft1 i q hq).later hb, fun i q hq => (h.soft2 i q hq).later hb, h.len⟩
end

theorem soft_of {B g : Nat} {w : World} {a : Option Addr} {c : Nat} {ss : List ByteArray} (h : NwS B w a c ss) (ho : ∀ x, a = some x → some x.block ≠ some g) : Soft B g w a ss.length := fun j hj => by
  obtain ⟨x, hx, hc⟩ := h.1.2 j hj
  obtain ⟨h1, h2⟩ := h.2.2.2.2 x hx
  obtain ⟨b, o, z⟩ := x
  simp only [Addr.mk.injEq] at h1
  obtain ⟨-, rfl, rfl⟩ := h1
  refine ⟨b, hx, fun e => ho _ hx (by rw [e]), (h.2.1 _ hx).1, ⟨ss.getD j ByteArray.empty, ?_⟩, h2⟩
  rcases Nat.eq_zero_or_pos j with rfl | hp
  · simpa [Addr.add] using hc
  · simpa [Addr.add, show j ≠ 0 by omega] using hc

theorem wk_of {B g n cap : Nat} {w : World} {l : List PodT} (hr : w.ownsRow B 26 7 (.slice (some ⟨g, 0, none⟩) n cap) n (flat l)) (hB : B ≤ g) (hN : ∀ p ∈ l, p.Nw B w) (ho : ∀ p ∈ l, p.Off (some g)) : Wk B g w l := by
  have hc : ∀ (i : Nat) (p : PodT), l[i]? = some p → ∀ j, j < 7 → ∀ u, p.cells[j]? = some u → w.cell? ⟨g, i * 7 + j, none⟩ = some u := fun i p hp j hj u hu => own_cell hr (i * 7 + j) u (by rw [flat_get l i j p hp hj]; exact hu)
  exact ⟨hB, own_frozen hr, fun i p hp => ⟨_, hc i p hp 0 (by omega) _ rfl⟩, fun i p hp => hc i p hp 4 (by omega) _ rfl, fun i p hp => hc i p hp 5 (by omega) _ rfl,
    fun i p hp => soft_of (hN p (List.mem_of_getElem? hp)).1 (ho p (List.mem_of_getElem? hp)).1, fun i p hp => soft_of (hN p (List.mem_of_getElem? hp)).2 (ho p (List.mem_of_getElem? hp)).2,
    fun i p hp => ⟨(hN p (List.mem_of_getElem? hp)).1.1.1, (hN p (List.mem_of_getElem? hp)).2.1.1⟩⟩

end Go.Proofs.Ytgcicillmljglaa
