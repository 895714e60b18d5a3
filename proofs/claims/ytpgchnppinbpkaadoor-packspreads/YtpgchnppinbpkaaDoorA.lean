/- The contract of All of package mark. -/
import Derived.Test.YtpgchnppinbpkaaDoorS
import Derived.Maps.AppendAt
import Derived.StringKeys
namespace Go.Proofs.YtpgchnppinbpkaaDoor
open Go.RowKit Go.Maps

theorem law9 : Keyed Tryd.prog 9 := string_keyed Tryd.underlying9
theorem zeroUnit (w : World) : (zeroValue 141).run Tryd.prog w = .ok (.agg #[]) w := by kernel_rfl

theorem run_makeMap_hint {P : Program} {t k e : TypeId} (h : P.underlying t = some (.map k e)) (q : IntKind) (n : Int) (w : World) : (Instr.makeMap t (some (.int q n))).run P w = .ok (.map (some w.heap.size)) (w.alloc (.map #[] 0)) := by
  simp [Instr.makeMap, run_underlying h, asInt, asIntOf]

/-- What a text is as a key. -/
def keyL (s : ByteArray) : Lit := .string s.data.toList
/-- The set that holds the first k texts. -/
def Sd {H : Type} (l : List ByteArray) (k : Nat) : DataW H := setOf (.agg []) ((l.take k).map keyL)

theorem Sd_zero {H : Type} (l : List ByteArray) : Sd (H := H) l 0 = .map [] := by simp [Sd, setOf]
theorem Sd_succ {H : Type} (l : List ByteArray) (k : Nat) (h : k < l.length) : Sd (H := H) l (k + 1) = (Sd l k).put (keyL (l.getD k ByteArray.empty)) (.agg []) := by
  unfold Sd
  rw [List.take_succ_eq_append_getElem h, List.map_append, List.map_singleton, setOf_snoc]
  simp [List.getD, List.getElem?_eq_getElem h]
theorem has_Sd {H : Type} (l : List ByteArray) (k : Nat) (s : ByteArray) : Maps.has (Sd (H := H) l k) (keyL s) = inB (l.take k) s := by
  unfold Sd inB
  rw [has_setOf _ _ _ (fun y hy => by obtain ⟨_, _, rfl⟩ := List.mem_map.1 hy; trivial), List.any_map]
  congr 1
  funext t
  show Lit.sameKey (keyL t) (keyL s) = _
  rw [ByteArray.toList_eq, ByteArray.toList_eq]
  by_cases e : t.data.toList = s.data.toList
  · simp [keyL, Lit.sameKey, e]
  · simp [keyL, Lit.sameKey]

set_option maxRecDepth 100000 in
set_option maxHeartbeats 2000000 in
theorem all_any (a1 : Option Addr) (cap1 : Nat) (of : List ByteArray) (a2 : Option Addr) (cap2 : Nat) (l : List ByteArray) (w : World) (h1 : Strs w a1 of) (h2 : Strs w a2 l)
    (z1 : ∀ i, (of.getD i ByteArray.empty).size ≤ maxLen) (z2 : ∀ i, (l.getD i ByteArray.empty).size ≤ maxLen) :
    Calls Tryd.prog 78 #[.slice a1 of.length cap1, .slice a2 l.length cap2] w fun e w' => e = .returned (.bool (allB of l)) ∧ Below w.heap.size w w' := by
  have l1 := h1.1
  have l2 := h2.1
  have hmm : ∀ q n w, (Instr.makeMap 140 (some (.int q n))).run Tryd.prog w = _ := fun q n w => run_makeMap_hint Tryd.underlying140 q n w
  obtain ⟨A, hA⟩ : ∃ A, allB of l = A := ⟨_, rfl⟩
  rw [hA]
  go_enter Tryd.func78, Tryd.ntmps78
  go_wp2
  go_loopw [17] (fun i wr => ∃ k : Nat, k ≤ l.length ∧ i = .int .i64 k ∧ wr.ownsMap Tryd.prog 9 unitElem w.heap.size k (Sd (H := Unit) l k) ∧ Below w.heap.size w wr ∧ w.heap.size < wr.heap.size) (fun i _ => l.length - (intOf i).toNat)
  case atStart => exact ⟨0, Nat.zero_le _, rfl, by rw [Sd_zero]; exact World.ownsMap_made _ _ _ _, (Below.refl _ _).alloc (Nat.le_refl _) _, by simp⟩
  case round =>
    obtain ⟨k, hk, rfl, hown, hbw, hlt0⟩ := hrel
    by_cases hlt : k < l.length
    · obtain ⟨x, rfl, hcs⟩ := h2.2 k hlt
      have hcs := cell_below hbw hcs (block_lt hcs)
      have hst := Sd_succ (H := Unit) l k hlt
      have hzk := z2 k
      obtain ⟨s, hs⟩ : ∃ s, l.getD k ByteArray.empty = s := ⟨_, rfl⟩
      rw [hs] at hcs hst hzk
      have HST : Hid (Sd (H := Unit) l (k + 1) = (Sd l k).put (keyL s) (.agg [])) := hst
      have hkey : keyOf Tryd.prog 9 (.string s) = some (keyL s) := WideMaps.keyOf_string_mk Tryd.underlying9 hzk
      clear hst hs h1 h2 z1 z2 hA
      go_wp2_with (first
        | (at_mapUpdate; refine wpList_mapUpdate_own _ rfl _ _ _ 140 rfl 9 141 law9 Tryd.underlying140 (unitElem (H := Unit)) w.heap.size k _ rfl hown (by unfold maxLen; omega) _ _ _ rfl rfl hkey _ [] unitElem_mk ?_; intro w1 hown1 hgrow1)
        | go_in)
      go_roundw
      case rel =>
        refine ⟨k + 1, hlt, by go_num, by rw [HST.out]; exact hown1, hbw.grown hgrow1 hbw.size (fun j hj => by cases hj; exact Nat.le_refl _), ?_⟩
        have := hgrow1.size
        omega
      case measure => simp [intOf]; omega
    · have e1 : k = l.length := by omega
      subst e1
      have hin : ∀ s, Maps.has (Sd (H := Unit) l l.length) (keyL s) = inB l s := fun s => by rw [has_Sd, List.take_length]
      obtain ⟨D, hD⟩ : ∃ D, Sd (H := Unit) l l.length = D := ⟨_, rfl⟩
      rw [hD] at hown hin
      clear hD
      have hA0 : Hid (allB (of.drop 0) l = A) := hA
      clear hA
      go_wp2
      go_loopw [27] (fun i wr => ∃ j : Nat, j ≤ of.length ∧ i = .int .i64 j ∧ wr.ownsMap Tryd.prog 9 unitElem w.heap.size l.length D ∧ Below w.heap.size w wr ∧ w.heap.size < wr.heap.size ∧ Hid (allB (of.drop j) l = A)) (fun i _ => of.length - (intOf i).toNat)
      case atStart => exact ⟨0, Nat.zero_le _, rfl, hown, hbw, hlt0, hA0⟩
      case round =>
        clear hown hbw hlt0 hA0
        obtain ⟨j, hj, rfl, hown, hbw, hlt0, HS⟩ := hrel
        by_cases hlt : j < of.length
        · obtain ⟨x, rfl, hcs⟩ := h1.2 j hlt
          have hcs := cell_below hbw hcs (block_lt hcs)
          have hzk := z1 j
          have hd := drop_at of j hlt
          obtain ⟨s, hs⟩ : ∃ s, of.getD j ByteArray.empty = s := ⟨_, rfl⟩
          rw [hs] at hcs hzk hd
          have hkey : keyOf Tryd.prog 9 (.string s) = some (keyL s) := WideMaps.keyOf_string_mk Tryd.underlying9 hzk
          obtain ⟨b, hb⟩ : ∃ b, Maps.has D (keyL s) = b := ⟨_, rfl⟩
          have H2 : Hid (A = (b && allB (of.drop (j + 1)) l)) := by
            show _ = _
            rw [← HS.out, hd, ← hb, hin]; rfl
          clear HS hd hs h1 h2 z1 z2 hin
          cases b
          all_goals
            go_wp2_with (first
              | (at_lookup; refine wpList_lookup_own_unit _ rfl _ _ 140 rfl 9 141 law9 Tryd.underlying140 (zeroUnit _) w.heap.size l.length _ rfl hown _ _ rfl hkey ?_; rw [hb])
              | go_in)
            first
            | (go_roundw
               case rel => exact ⟨j + 1, hlt, by go_num, hown.alloc _, hbw.alloc hbw.size _, by simp; omega, (by show _ = _; rw [H2.out]; rfl)⟩
               case measure => simp [intOf]; omega)
            | (go_ret
               exact ⟨by rw [H2.out]; rfl, hbw.alloc hbw.size _⟩)
        · have e1 : j = of.length := by omega
          have e2 : A = true := by rw [← HS.out, e1, List.drop_length]; rfl
          subst e2
          clear h1 h2 z1 z2 hin
          go_wp2
          go_ret
          exact ⟨rfl, hbw⟩

end Go.Proofs.YtpgchnppinbpkaaDoor
