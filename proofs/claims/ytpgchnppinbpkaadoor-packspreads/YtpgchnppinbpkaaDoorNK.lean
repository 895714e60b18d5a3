/- The library's sorted keys of the nodes' map: the nodes' names, rising, as they stand in the list. -/
import Derived.Test.YtpgchnppinbpkaaDoorCP
import Derived.Test.YtpgchnppinbpkaaDoorSh
namespace Go.Proofs.YtpgchnppinbpkaaDoor
open Go.RowKit Go.Maps Go.Sort Go.Shelf

theorem before_le : ∀ (a b : List UInt8), bytesBefore a b = true → a ≤ b
  | [], _, _ => List.nil_le _
  | _ :: _, [], h => by cases h
  | x :: r, y :: s, h => by
    simp only [bytesBefore, Bool.or_eq_true, decide_eq_true_eq, Bool.and_eq_true, beq_iff_eq] at h
    rcases h with h | ⟨rfl, h⟩
    · exact List.le_of_lt (List.Lex.rel h)
    · have := before_le r s h
      rw [List.le_iff_lt_or_eq] at this ⊢
      rcases this with h | rfl
      · exact .inl (List.Lex.cons h)
      · exact .inr rfl
theorem rising_keys : ∀ (E : List (ByteArray × Rec)), DataW.rising (E.map fun p => (sK p.1, DataW.held (Rec.val p.2))) = true → (E.map fun p => p.1.data.toList).Pairwise (fun a b => bytesBefore a b = true)
  | [], _ => List.Pairwise.nil
  | [_], _ => by simp
  | a :: b :: t, h => by
    simp only [List.map_cons, DataW.rising, Bool.and_eq_true] at h
    have h2 := rising_keys (b :: t) h.2
    rw [List.map_cons, List.pairwise_cons]
    refine ⟨fun x hx => ?_, h2⟩
    have hab : bytesBefore a.1.data.toList b.1.data.toList = true := h.1
    rw [List.map_cons] at hx
    rcases List.mem_cons.1 hx with rfl | hx
    · exact hab
    · rw [List.map_cons, List.pairwise_cons] at h2
      exact WideShapes.bytes_trans _ _ _ hab (h2.1 x hx)
theorem NOwn.rising {w : World} {b : Nat} {E : List (ByteArray × Rec)} (h : NOwn w b E) : (E.map fun p => p.1.data.toList).Pairwise (fun a b => bytesBefore a b = true) := by
  obtain ⟨es, clock, _, F, _, hD⟩ := h
  have := fit_rising kS F
  simp only [encD, DataW.map.injEq] at hD
  rw [← hD] at this
  exact rising_keys E this

theorem sorts_any (m : Nat) : AnyZ.SortsIn Tryd.prog Tryd.sortedA_ren Fence.wide m :=
  ⟨fun blk off cap ss W hH hblk hsz => callsIn_wide.2 (AnyM.slices_Sort_string Tryd.sortA blk off cap ss W hH hblk hsz),
   fun p cap W => callsIn_wide.2 (AnyM.slices_Sort_string_none Tryd.sortA p cap W)⟩

theorem keys_any (mb : Option Nat) (W : World) : Calls Tryd.prog 30 #[.map mb] W fun e w' => e = .returned (.func (.func 55) #[] #[.pointer (some ⟨W.heap.size, 0, none⟩)]) ∧ w' = W.alloc (.cells #[.map mb] 70) :=
  (callsIn_wide (n := 5)).1 (AnyZ.keys_in Tryd.keysA Fence.wide 5 trivial rfl mb W)

theorem sorted_some (b : Nat) (E : List (ByteArray × Rec)) (w : World) (hown : NOwn w b E) (hlen : E.length ≤ 1000) :
    Calls Tryd.prog 29 #[.func (.func 55) #[] #[.pointer (some ⟨w.heap.size, 0, none⟩)]] (w.alloc (.cells #[.map (some b)] 70)) fun e w' => ∃ a c, e = .returned (.slice a E.length c) ∧ Strs w' a (E.map (·.1)) ∧ (∀ x, a = some x → w.heap.size < x.block ∧ x.block < w'.heap.size) ∧ Below (w.heap.size + 1) (w.alloc (.cells #[.map (some b)] 70)) w' := by
  have hbl := hown.lt
  have hrise := hown.rising
  have hsz : Maps.size (encD sK Rec.val E) = E.length := encD_size _ _ _
  have hseq : SeqGives Fence.wide 2 Tryd.prog 55 #[.pointer (some ⟨w.heap.size, 0, none⟩)] encStr (fun ss => ss.Perm (strKeys (encD sK Rec.val E))) (Maps.size (encD sK Rec.val E)) (w.alloc (.cells #[.map (some b)] 70)) :=
    AnyZ.keys_gives (ρ := Tryd.keysA_ren) { Tryd.keysA with } Fence.wide _ trivial rfl (by omega) w.heap.size b E.length _ _ (by simp) (by simp) (show NOwn _ b E from hown.kept (Below.heap_alloc _ _ b hbl))
  have cS := AnyZ.sorted_in Tryd.sortedA Fence.wide 5 trivial trivial trivial trivial rfl (by omega) (sorts_any _) (enters_of Tryd.func54 (by kernel_rfl) rfl) 55 #[.pointer (some ⟨w.heap.size, 0, none⟩)] trivial (enters_of Tryd.func55 (by kernel_rfl) rfl) _ _ (by rw [hsz]; unfold maxLen; omega) (by rw [hsz]; omega) _ hseq
  change CallsIn _ _ Tryd.prog 29 _ _ _ at cS
  refine ((callsIn_wide (n := 5)).1 cS).mono ?_
  rintro e w' ⟨v, ss, rfl, hS, hrow, hnil, hb⟩
  have hk : strKeys (encD sK Rec.val E) = E.map fun p => p.1.data.toList := by simp [strKeys, encD, strOf]
  rw [hk] at hS
  have hle : (E.map fun p => p.1.data.toList).Pairwise (fun a b => leB a b = true) := hrise.imp fun h => by simpa using before_le _ _ h
  have hms : (ss.mergeSort (fun x y => decide (x ≤ y))) = E.map fun p => p.1.data.toList := by
    have e1 := mergeSort_of_perm hS
    rw [List.mergeSort_of_pairwise hle] at e1
    exact e1
  rw [hms] at hrow
  have hl : ss.length = E.length := by rw [hS.length_eq]; simp
  rw [hl] at hrow
  have hE : (E.map fun p => p.1.data.toList).map encStr = (E.map (·.1)).map Value.string := by simp [encStr]
  rw [hE] at hrow
  obtain ⟨hlen', hv⟩ := hrow
  rcases hv with ⟨rfl, h0⟩ | ⟨g, cap, cur, rfl, hg, hheap, hcap, hmax, hcs, htake⟩
  · have : E = [] := List.eq_nil_of_length_eq_zero h0
    subst this
    exact ⟨none, 0, rfl, ⟨by simp, by simp⟩, (fun x hx => by cases hx), by simpa using hb⟩
  · refine ⟨some ⟨g, 0, none⟩, cap, rfl, ⟨by simpa using hlen, fun i hi' => ⟨_, rfl, ?_⟩⟩, (fun x hx => by cases hx; exact ⟨by simp at hg; exact hg, (Array.getElem?_eq_some_iff.1 hheap).1⟩), by simpa using hb⟩
    have hown : w'.ownsRow (w.alloc (.cells #[.map (some b)] 70)).heap.size 9 1 (.slice (some ⟨g, 0, none⟩) E.length cap) E.length ((E.map (·.1)).map Value.string) := ⟨hlen', .inr ⟨g, cap, cur, rfl, hg, hheap, hcap, hmax, hcs, htake⟩⟩
    exact hown.cells (g := g) rfl i _ (by simp [List.getElem?_eq_getElem (show i < E.length by simpa using hi')])

theorem sorted_none (w : World) :
    Calls Tryd.prog 29 #[.func (.func 55) #[] #[.pointer (some ⟨w.heap.size, 0, none⟩)]] (w.alloc (.cells #[.map none] 70)) fun e w' => e = .returned (.slice none 0 0) ∧ Below (w.heap.size + 1) (w.alloc (.cells #[.map none] 70)) w' := by
  have hseq : SeqGives Fence.wide 2 Tryd.prog 55 #[.pointer (some ⟨w.heap.size, 0, none⟩)] encStr (fun ss : List (List UInt8) => ss = []) 0 (w.alloc (.cells #[.map none] 70)) :=
    AnyZ.keys_gives_nil (ρ := Tryd.keysA_ren) { Tryd.keysA with } Fence.wide _ trivial rfl w.heap.size _ (by simp) (by simp)
  have cS := AnyZ.sorted_in Tryd.sortedA Fence.wide 5 trivial trivial trivial trivial rfl (by omega) (sorts_any _) (enters_of Tryd.func54 (by kernel_rfl) rfl) 55 #[.pointer (some ⟨w.heap.size, 0, none⟩)] trivial (enters_of Tryd.func55 (by kernel_rfl) rfl) _ 0 (Nat.zero_le _) (by omega) _ hseq
  change CallsIn _ _ Tryd.prog 29 _ _ _ at cS
  refine ((callsIn_wide (n := 5)).1 cS).mono ?_
  rintro e w' ⟨v, ss, rfl, rfl, hrow, hnil, hb⟩
  obtain rfl : v = .slice none 0 0 := hnil.2 rfl
  exact ⟨rfl, by simpa using hb⟩

/-- In one. -/
theorem sorted_any (p : Option Nat) (E : List (ByteArray × Rec)) (w : World) (hown : NMap w p E) (hlen : E.length ≤ 1000) :
    Calls Tryd.prog 29 #[.func (.func 55) #[] #[.pointer (some ⟨w.heap.size, 0, none⟩)]] (w.alloc (.cells #[.map p] 70)) fun e w' => ∃ a c, e = .returned (.slice a E.length c) ∧ Strs w' a (E.map (·.1)) ∧ (∀ x, a = some x → w.heap.size < x.block ∧ x.block < w'.heap.size) ∧ Below w.heap.size w w' := by
  have hb0 : ∀ o, Below w.heap.size w (w.alloc o) := up (Below.refl _ _)
  rcases hown with ⟨rfl, rfl⟩ | ⟨b, rfl, hn⟩
  · exact (sorted_none w).mono fun e w' ⟨h1, h2⟩ => ⟨none, 0, h1, ⟨by simp, by simp⟩, (fun x hx => by cases hx), (hb0 _).trans (h2.mono (by omega))⟩
  · exact (sorted_some b E w hn hlen).mono fun e w' ⟨a, c, h1, h2, h4, h3⟩ => ⟨a, c, h1, h2, h4, (hb0 _).trans (h3.mono (by omega))⟩

end Go.Proofs.YtpgchnppinbpkaaDoor
