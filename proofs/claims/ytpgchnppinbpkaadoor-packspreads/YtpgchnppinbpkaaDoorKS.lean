/- Rows of pods of the call's own; nodes and pods by their places. -/
import Derived.Test.YtpgchnppinbpkaaDoorKB
import Derived.Deep.QuietTactic
import Derived.Deep.DeepCutAuto
namespace Go.Proofs.YtpgchnppinbpkaaDoor
open Go.RowKit Go.Maps
set_option linter.unusedSimpArgs false
set_option linter.unusedVariables false

def PodT.cells (p : PodT) : List Value := [.string p.name, .int .i64 p.shard, .int .i64 p.cpu, .int .i64 p.mem, .slice p.pa p.ps.length p.pc, .slice p.ba p.bs.length p.bc, .bool p.al]
theorem pcells_at : ∀ (l : List PodT) (j : Nat), (l.flatMap PodT.cells)[j]? = (l[j / 7]?).bind fun p => p.cells[j % 7]?
  | [], j => by simp
  | p :: t, j => by
    rw [List.flatMap_cons]
    by_cases h : j < 7
    · rw [List.getElem?_append_left (by simpa [PodT.cells] using h)]
      have e1 : j / 7 = 0 := by omega
      have e2 : j % 7 = j := by omega
      simp [e1, e2]
    · rw [List.getElem?_append_right (by simp [PodT.cells]; omega), pcells_at t]
      have e1 : j / 7 = (j - 7) / 7 + 1 := by omega
      have e2 : (j - 7) % 7 = j % 7 := by omega
      simp only [PodT.cells, List.length_cons, List.length_nil, Nat.reduceAdd, e2]
      rw [e1]
      rfl
theorem pods_own {w : World} {base : Nat} {v : Value} {n : Nat} {l : List PodT} (h : w.ownsRow base 48 7 v n (l.flatMap PodT.cells)) (hn : l.length = n) (hok : ∀ p ∈ l, p.Ok w) : ∃ a c, v = .slice a n c ∧ Pods w a l := by
  rcases h.2 with ⟨rfl, h0⟩ | ⟨g, cap, cur, rfl, hb, hh, hncap, hrest⟩
  · have : l = [] := List.eq_nil_of_length_eq_zero (by omega)
    subst this h0
    exact ⟨none, 0, rfl, fun i p hp => by simp at hp⟩
  · refine ⟨some ⟨g, 0, none⟩, cap, rfl, fun i p hp => ⟨g, 0, rfl, ?_, hok p (List.mem_of_getElem? hp)⟩⟩
    have key : ∀ t u, p.cells[t]? = some u → w.cell? ⟨g, 0 + i * 7 + t, none⟩ = some u := fun t u hu => by
      have ht : t < 7 := by have := (List.getElem?_eq_some_iff.1 hu).1; simpa [PodT.cells] using this
      have := h.cells (g := g) rfl (i * 7 + t) u (by rw [pcells_at]; rw [show (i * 7 + t) / 7 = i by omega, show (i * 7 + t) % 7 = t by omega, hp]; exact hu)
      rw [add_spot rfl] at this
      rwa [Nat.add_assoc]
    exact ⟨key 0 _ rfl, key 1 _ rfl, key 2 _ rfl, key 3 _ rfl, key 4 _ rfl, key 5 _ rfl, key 6 _ rfl⟩
theorem infoPod : (Tryd.prog.info? 48).map (fun i => (i.zero, i.size, i.bytes)) = some (some (.agg #[.string ByteArray.empty, .int .i64 0, .int .i64 0, .int .i64 0, .slice none 0 0, .slice none 0 0, .bool false]), 7, 96) := by kernel_rfl

/-- The name of a pod by its place. -/
def pN (k : Nat) : ByteArray := ⟨#[112, UInt8.ofNat (97 + k)]⟩
theorem sN_lt (a b : Nat) (h : a < b) (hb : b < 12) : sb (sN a) (sN b) = true := by
  have h0 : ∀ b : Fin 12, ∀ a : Fin 12, a < b → sb (sN a.val) (sN b.val) = true := by decide +kernel
  exact h0 ⟨b, hb⟩ ⟨a, by omega⟩ h
theorem sN_ok (k : Nat) (hk : k < 12) (cpu mem : Int) (hc : 0 ≤ cpu ∧ cpu ≤ 1000) (hm : 0 ≤ mem ∧ mem ≤ 1000) : nodeE (sN k) cpu mem [] [] = 0 := by
  have e1 : isName (sN k) = true := by
    have h0 : ∀ a : Fin 12, isName (sN a.val) = true := by decide +kernel
    exact h0 ⟨k, hk⟩
  have e2 : sizeB cpu mem = true := by unfold sizeB; simp; omega
  have e3 : setB [] = true := rfl
  unfold nodeE askE
  rw [e1, e2, e3]; rfl

/-- Pods by their places. -/
def podsK (cpu mem : Int) (al : Bool) : Nat → List PodT
  | 0 => []
  | k + 1 => podsK cpu mem al k ++ [pod1 (pN k) cpu mem al]
theorem podsK_len (cpu mem : Int) (al : Bool) : ∀ k, (podsK cpu mem al k).length = k
  | 0 => rfl
  | k + 1 => by simp [podsK, podsK_len cpu mem al k]
theorem podsK_ok {cpu mem : Int} {al : Bool} (h : 0 ≤ cpu ∧ 0 ≤ mem) (w : World) : ∀ k, ∀ p ∈ podsK cpu mem al k, p.Ok w
  | 0, p, hp => by cases hp
  | k + 1, p, hp => by
    rcases List.mem_append.1 hp with hp | hp
    · exact podsK_ok h w k p hp
    · simp only [List.mem_singleton] at hp
      subst hp
      exact pod1_ok w _ _ _ _ h
theorem podsK_strip (cpu mem : Int) (al : Bool) : ∀ k, (podsK cpu mem al k).map strip = podsK cpu mem al k
  | 0 => rfl
  | k + 1 => by
    simp only [podsK, List.map_append, podsK_strip cpu mem al k]
    rfl

end Go.Proofs.YtpgchnppinbpkaaDoor
