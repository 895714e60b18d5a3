/- Rows among a walk's own variables. -/
import Derived.Test.YthneemgpifbehaaGreatDoorKHX
import Derived.Test.YthneemgpifbehaaGreatDoorKUV
namespace Go.Proofs.YthneemgpifbehaaGreatDoor
open Go.RowKit Go.Maps
set_option linter.unusedSimpArgs false
set_option linter.unusedVariables false

theorem own_box {w : World} {base : Nat} {e : TypeId} {size g n cap : Nat} {xs : List Value} (h : w.ownsRow base e size (.slice (some ⟨g, 0, none⟩) n cap) n xs) :
    ∃ cur, Box w g cur e ∧ base ≤ g ∧ ∀ W, Box W g cur e → ∀ j, j < n * size → W.cell? ⟨g, j, none⟩ = xs[j]? := by
  rcases h.2 with ⟨e1, _⟩ | ⟨g', cap', cur, e1, hb, hg, _⟩
  · cases e1
  · have e2 : g' = g := by injection e1 with e1; injection e1 with e1; injection e1 with e1; exact e1.symm
    subst e2
    exact ⟨cur, hg, hb, fun W hW j hj => (World.cell?_of_block (hW.trans hg.symm)).trans (h.cellAt j hj)⟩

theorem asks_eq (me g : Int) (ps : List Nat) : asksC me g ps = (0 :: askTo me ps).flatMap fun (p : Nat) => askC me g p := by
  unfold asksC; rw [List.flatMap_cons]; rfl
theorem flat_get (me g : Int) : ∀ (l : List Nat) (k i : Nat), i < 7 → k < l.length → (l.flatMap fun (p : Nat) => askC me g p)[k * 7 + i]? = (askC me g (l.getD k 0 : Nat))[i]?
  | [], _, _, _, h => by simp at h
  | p :: l, 0, i, hi, _ => by
    rw [List.flatMap_cons, List.getElem?_append_left (by rw [ask_len]; omega)]
    simp
  | p :: l, k + 1, i, hi, hk => by
    rw [List.flatMap_cons, List.getElem?_append_right (by rw [ask_len]; omega), ask_len]
    have := flat_get me g l k i hi (by simpa using hk)
    rw [show (k + 1) * 7 + i - 7 = k * 7 + i by omega, this]
    simp
/-- The k-th message. -/
theorem asks_get (me g : Int) (ps : List Nat) (k i : Nat) (hi : i < 7) (hk : k < (askTo me ps).length + 1) : (asksC me g ps)[k * 7 + i]? = (askC me g ((0 :: askTo me ps).getD k 0 : Nat))[i]? := by
  rw [asks_eq]; exact flat_get me g _ k i hi (by simpa using hk)

theorem nats_own {w : World} {base g n cap : Nat} {ps : List Nat} {t : TypeId} (h : w.ownsRow base t 1 (.slice (some ⟨g, 0, none⟩) n cap) n (ps.map natV)) (hn : ps.length = n) : Nats w (some ⟨g, 0, none⟩) ps := fun i hi => by
  refine ⟨_, rfl, ?_⟩
  have := h.cellAt i (by omega)
  rw [List.getElem?_map] at this
  have e : ps[i]? = some (ps.getD i 0) := by rw [List.getD_eq_getElem?_getD, List.getElem?_eq_getElem hi]; rfl
  rw [e] at this
  have ea : (⟨g, 0, none⟩ : Addr).add i = ⟨g, i, none⟩ := by
    cases i with
    | zero => rfl
    | succ i => simp [Addr.add]
  rw [ea]
  simpa [natV] using this
/-- Who is asked. -/
abbrev toL (ps : List Nat) : List Nat := 0 :: askTo 1 ps

end Go.Proofs.YthneemgpifbehaaGreatDoor
