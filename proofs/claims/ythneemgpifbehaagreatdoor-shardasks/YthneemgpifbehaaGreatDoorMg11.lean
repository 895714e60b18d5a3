/- The contract of the library's Copy of maps, at the nodes' map. -/
import Derived.Test.YthneemgpifbehaaGreatDoorMg06
import Derived.Test.YthneemgpifbehaaGreatDoorMg08
import Derived.Lib.SlMapMerge
import Derived.Maps.Ext
import Derived.Maps.RangeWalk
import Derived.Laws.IdiomRangeMap
import Derived.Test.YthneemgpifbehaaGreatDoorMg07
namespace Go.Proofs.YthneemgpifbehaaGreatDoor
open Go.RowKit Go.Maps

/-- The one laid into the other. -/
def mergeF (E A : List (ByteArray × Rec)) : List (ByteArray × Rec) := A.foldl (fun M p => put sK M p.1 p.2) E
theorem enc_merge : ∀ (A E : List (ByteArray × Rec)), (A.map fun p => (sK p.1, DataW.held (Rec.val p.2))).foldl (fun D p => D.put p.1 p.2) (encD sK Rec.val E) = encD sK Rec.val (mergeF E A)
  | [], E => rfl
  | p :: t, E => by
    rw [List.map_cons, List.foldl_cons, encD_put sK Rec.val sK_same, enc_merge t]
    rfl
theorem mergeD_enc (E A : List (ByteArray × Rec)) : Lib.mergeD (encD sK Rec.val E) (encD sK Rec.val A) = encD sK Rec.val (mergeF E A) := enc_merge A E

theorem mem_enc {A : List (ByteArray × Rec)} {kl : Lit} {c : Value} (h : ∀ zd, (encD sK Rec.val A).atKey kl zd = .held c) : ∃ p ∈ A, c = Rec.val p.2 := by
  have h0 := h .nil
  unfold encD DataW.atKey at h0
  simp only at h0
  cases hf : (A.map fun p => (sK p.1, DataW.held (Rec.val p.2))).find? (fun p => p.1.sameKey kl) with
  | none => rw [hf] at h0; cases h0
  | some x =>
    rw [hf] at h0
    obtain ⟨p, hp, rfl⟩ := List.mem_map.1 (List.mem_of_find?_eq_some hf)
    simp only [DataW.held.injEq] at h0
    exact ⟨p, hp, h0.symm⟩

set_option maxRecDepth 100000 in
set_option maxHeartbeats 4000000 in
theorem copy_any (bd bs : Nat) (E A : List (ByteArray × Rec)) (w : World) (hd : NOwn w bd E) (hs : NOwn w bs A) (hne : bd ≠ bs) (hroom : E.length + A.length ≤ maxLen) :
    Calls Tryz.prog 152 #[.map (some bd), .map (some bs)] w fun e w' => e = .returned (.tuple #[]) ∧ NOwn w' bd (mergeF E A) ∧ w.grownBy w' (some bd) := by
  have hbd := hd.lt
  have hbs := hs.lt
  have hsz : Maps.size (encD sK Rec.val A) = A.length := encD_size _ _ _
  unfold NOwn at hd hs
  go_enter Tryz.func152, Tryz.ntmps152
  go_wp2_with (first
    | (at_range; refine wpList_range_own _ rfl _ 149 rfl 9 161 kS Tryz.underlying149 raw bs _ _ rfl hs ?_; intro w0 hrg0 hg0 hs0)
    | go_in)
  go_frame
  go_loopw [4] (fun _ wr => ∃ (left : Lit → Bool) (cnt : Nat) (Dout : DataW Value), wr.ranges Tryz.prog 9 raw bs w.heap.size A.length (encD sK Rec.val A) left cnt ∧ cnt ≤ A.length ∧
      wr.ownsMap Tryz.prog 9 raw bd (E.length + (A.length - cnt)) Dout ∧ Merged Dout (encD sK Rec.val E) (encD sK Rec.val A) left ∧ w.grownBy wr (some bd) ∧ w.heap.size < wr.heap.size)
    (fun _ wr => wr.rangeLeft bs w.heap.size)
  case atStart =>
    rw [hsz] at hrg0
    exact ⟨_, _, _, hrg0, Nat.le_refl _, (hd.kept hg0 (by simp)).mono (by omega), merged_start _ _, hg0.but _, by omega⟩
  case round =>
    obtain ⟨left, cnt, Dout, hrg, hcs, hout, hM, hgw, hlt0⟩ := hrel
    go_wp2_with (first
      | (at_next; refine wpList_next_ranges _ rfl _ rfl 9 kS raw id id (fun key _ _ => ⟨key, rfl⟩) (fun v _ _ => ⟨v, rfl⟩) bs w.heap.size A.length _ _ _ rfl hrg ?_ ?_)
      | go_in)
    · intro hc0 hl0
      go_wp2
      go_end0
      subst hc0
      have e := merged_eq kS.one hM hl0 (hout.canon kS) (hd.canonK kS) (hs.canonK kS)
      rw [mergeD_enc] at e
      subst e
      exact ⟨rfl, NOwn.of hout, hgw⟩
    · intro x c kl yd yp w1 cnt1 hkey hlx hv hat hrg1 hlt hg1 hs1 hen
      obtain ⟨rfl, rfl⟩ : yd = .held c ∧ yp = [] := by
        have : raw c = some (yd, yp) := hv
        simp only [raw, Option.some.injEq, Prod.mk.injEq] at this
        exact ⟨this.1.symm, this.2.symm⟩
      obtain ⟨pr, hpr, hc⟩ := mem_enc hat
      obtain ⟨s0, r0⟩ := pr
      obtain ⟨nm', cpu', mem', a1', c1', xs', a2', c2', ys', cl', u, m, k'⟩ := r0
      simp only [Rec.val] at hc
      subst hc
      have hout1 := hout.kept hg1 (fun e => by have := Option.some.inj e; omega)
      go_wp2_with (first
        | (at_mapUpdate; refine wpList_mapUpdate_own _ rfl _ _ _ 149 rfl 9 161 kS Tryz.underlying149 raw bd _ _ rfl (hout1.alloc _) (by omega) _ _ _ rfl rfl hkey _ [] rfl ?_; intro w2 hout2 hg2; go_frame)
        | go_in)
      have hg12 := below_grown (up (Below.refl w1.heap.size w1) (.cells #[.string nm', .int .i64 cpu', .int .i64 mem', .slice a1' xs'.length c1', .slice a2' ys'.length c2', .bool cl', .int .i64 u, .int .i64 m, .int .i64 k'] 161)) (some bd)
      have hgA := grown_trans hg12 hg2
      have hrg2 := hrg1.kept hgA (fun e => hne (Option.some.inj e).symm) (fun e => by have := Option.some.inj e; omega)
      have hsA := hgA.size
      go_roundw
      case rel =>
        exact ⟨_, cnt1, _, hrg2, by omega, hout2.mono (by omega), merged_step hM hout.isMap (kS.key hkey) hat, (hgw.andThen hg1 (fun j hj => .inl (by cases hj; exact Nat.le_refl _))).andThen hgA (fun j hj => .inr hj), by omega⟩
      case measure => rw [hrg2.left_eq, hrg.left_eq]; exact hlt

end Go.Proofs.YthneemgpifbehaaGreatDoor

/- The library's sorted keys of the nodes' map: the nodes' names, rising, as they stand in the list. -/
namespace Go.Proofs.YthneemgpifbehaaGreatDoor
open Go.RowKit Go.Maps Go.Sort Go.Shelf

theorem before_le : ∀ (a b : List UInt8), bytesBefore a b = true → a ≤ b
  | [], _, _ => List.nil_le _
  | _ :: _, [], h => by cases h
  | x :: r, y :: s, h => by
    simp only [bytesBefore, Bool.or_eq_true, decide_eq_true_eq, Bool.and_eq_true, beq_iff_eq] at h
    rcases h with h | ⟨rfl, h⟩
    · exact List.le_of_lt (List.Lex.rel h)
    · have := before_le r s h
      rw [List.le_iff_lt_or_eq] at this ⊢
      rcases this with h | rfl
      · exact .inl (List.Lex.cons h)
      · exact .inr rfl
theorem rising_keys : ∀ (E : List (ByteArray × Rec)), DataW.rising (E.map fun p => (sK p.1, DataW.held (Rec.val p.2))) = true → (E.map fun p => p.1.data.toList).Pairwise (fun a b => bytesBefore a b = true)
  | [], _ => List.Pairwise.nil
  | [_], _ => by simp
  | a :: b :: t, h => by
    simp only [List.map_cons, DataW.rising, Bool.and_eq_true] at h
    have h2 := rising_keys (b :: t) h.2
    rw [List.map_cons, List.pairwise_cons]
    refine ⟨fun x hx => ?_, h2⟩
    have hab : bytesBefore a.1.data.toList b.1.data.toList = true := h.1
    rw [List.map_cons] at hx
    rcases List.mem_cons.1 hx with rfl | hx
    · exact hab
    · rw [List.map_cons, List.pairwise_cons] at h2
      exact WideShapes.bytes_trans _ _ _ hab (h2.1 x hx)
theorem NOwn.rising {w : World} {b : Nat} {E : List (ByteArray × Rec)} (h : NOwn w b E) : (E.map fun p => p.1.data.toList).Pairwise (fun a b => bytesBefore a b = true) := by
  obtain ⟨es, clock, _, F, _, hD⟩ := h
  have := fit_rising kS F
  simp only [encD, DataW.map.injEq] at hD
  rw [← hD] at this
  exact rising_keys E this

theorem sorts_any (m : Nat) : AnyZ.SortsIn Tryz.prog Tryz.sortedA_ren Fence.wide m :=
  ⟨fun blk off cap ss W hH hblk hsz => callsIn_wide.2 (AnyM.slices_Sort_string Tryz.sortA blk off cap ss W hH hblk hsz),
   fun p cap W => callsIn_wide.2 (AnyM.slices_Sort_string_none Tryz.sortA p cap W)⟩

theorem keys_any (mb : Option Nat) (W : World) : Calls Tryz.prog 138 #[.map mb] W fun e w' => e = .returned (.func (.func 184) #[] #[.pointer (some ⟨W.heap.size, 0, none⟩)]) ∧ w' = W.alloc (.cells #[.map mb] 149) :=
  (callsIn_wide (n := 5)).1 (AnyZ.keys_in Tryz.keysA Fence.wide 5 trivial rfl mb W)

theorem sorted_some (b : Nat) (E : List (ByteArray × Rec)) (w : World) (hown : NOwn w b E) (hlen : E.length ≤ 1000) :
    Calls Tryz.prog 137 #[.func (.func 184) #[] #[.pointer (some ⟨w.heap.size, 0, none⟩)]] (w.alloc (.cells #[.map (some b)] 149)) fun e w' => ∃ a c, e = .returned (.slice a E.length c) ∧ Strs w' a (E.map (·.1)) ∧ (∀ x, a = some x → w.heap.size < x.block ∧ x.block < w'.heap.size) ∧ Below (w.heap.size + 1) (w.alloc (.cells #[.map (some b)] 149)) w' := by
  have hbl := hown.lt
  have hrise := hown.rising
  have hsz : Maps.size (encD sK Rec.val E) = E.length := encD_size _ _ _
  have hseq : SeqGives Fence.wide 2 Tryz.prog 184 #[.pointer (some ⟨w.heap.size, 0, none⟩)] encStr (fun ss => ss.Perm (strKeys (encD sK Rec.val E))) (Maps.size (encD sK Rec.val E)) (w.alloc (.cells #[.map (some b)] 149)) :=
    AnyZ.keys_gives (ρ := Tryz.keysA_ren) { Tryz.keysA with } Fence.wide _ trivial rfl (by omega) w.heap.size b E.length _ _ (by simp) (by simp) (show NOwn _ b E from hown.kept (Below.heap_alloc _ _ b hbl))
  have cS := AnyZ.sorted_in Tryz.sortedA Fence.wide 5 trivial trivial trivial trivial rfl (by omega) (sorts_any _) (enters_of Tryz.func183 (by kernel_rfl) rfl) 184 #[.pointer (some ⟨w.heap.size, 0, none⟩)] trivial (enters_of Tryz.func184 (by kernel_rfl) rfl) _ _ (by rw [hsz]; unfold maxLen; omega) (by rw [hsz]; omega) _ hseq
  change CallsIn _ _ Tryz.prog 137 _ _ _ at cS
  refine ((callsIn_wide (n := 5)).1 cS).mono ?_
  rintro e w' ⟨v, ss, rfl, hS, hrow, hnil, hb⟩
  have hk : strKeys (encD sK Rec.val E) = E.map fun p => p.1.data.toList := by simp [strKeys, encD, strOf]
  rw [hk] at hS
  have hle : (E.map fun p => p.1.data.toList).Pairwise (fun a b => leB a b = true) := hrise.imp fun h => by simpa using before_le _ _ h
  have hms : (ss.mergeSort (fun x y => decide (x ≤ y))) = E.map fun p => p.1.data.toList := by
    have e1 := mergeSort_of_perm hS
    rw [List.mergeSort_of_pairwise hle] at e1
    exact e1
  rw [hms] at hrow
  have hl : ss.length = E.length := by rw [hS.length_eq]; simp
  rw [hl] at hrow
  have hE : (E.map fun p => p.1.data.toList).map encStr = (E.map (·.1)).map Value.string := by simp [encStr]
  rw [hE] at hrow
  obtain ⟨hlen', hv⟩ := hrow
  rcases hv with ⟨rfl, h0⟩ | ⟨g, cap, cur, rfl, hg, hheap, hcap, hmax, hcs, htake⟩
  · have : E = [] := List.eq_nil_of_length_eq_zero h0
    subst this
    exact ⟨none, 0, rfl, ⟨by simp, by simp⟩, (fun x hx => by cases hx), by simpa using hb⟩
  · refine ⟨some ⟨g, 0, none⟩, cap, rfl, ⟨by simpa using hlen, fun i hi' => ⟨_, rfl, ?_⟩⟩, (fun x hx => by cases hx; exact ⟨by simp at hg; exact hg, (Array.getElem?_eq_some_iff.1 hheap).1⟩), by simpa using hb⟩
    have hown : w'.ownsRow (w.alloc (.cells #[.map (some b)] 149)).heap.size 9 1 (.slice (some ⟨g, 0, none⟩) E.length cap) E.length ((E.map (·.1)).map Value.string) := ⟨hlen', .inr ⟨g, cap, cur, rfl, hg, hheap, hcap, hmax, hcs, htake⟩⟩
    exact hown.cells (g := g) rfl i _ (by simp [List.getElem?_eq_getElem (show i < E.length by simpa using hi')])

theorem sorted_none (w : World) :
    Calls Tryz.prog 137 #[.func (.func 184) #[] #[.pointer (some ⟨w.heap.size, 0, none⟩)]] (w.alloc (.cells #[.map none] 149)) fun e w' => e = .returned (.slice none 0 0) ∧ Below (w.heap.size + 1) (w.alloc (.cells #[.map none] 149)) w' := by
  have hseq : SeqGives Fence.wide 2 Tryz.prog 184 #[.pointer (some ⟨w.heap.size, 0, none⟩)] encStr (fun ss : List (List UInt8) => ss = []) 0 (w.alloc (.cells #[.map none] 149)) :=
    AnyZ.keys_gives_nil (ρ := Tryz.keysA_ren) { Tryz.keysA with } Fence.wide _ trivial rfl w.heap.size _ (by simp) (by simp)
  have cS := AnyZ.sorted_in Tryz.sortedA Fence.wide 5 trivial trivial trivial trivial rfl (by omega) (sorts_any _) (enters_of Tryz.func183 (by kernel_rfl) rfl) 184 #[.pointer (some ⟨w.heap.size, 0, none⟩)] trivial (enters_of Tryz.func184 (by kernel_rfl) rfl) _ 0 (Nat.zero_le _) (by omega) _ hseq
  change CallsIn _ _ Tryz.prog 137 _ _ _ at cS
  refine ((callsIn_wide (n := 5)).1 cS).mono ?_
  rintro e w' ⟨v, ss, rfl, rfl, hrow, hnil, hb⟩
  obtain rfl : v = .slice none 0 0 := hnil.2 rfl
  exact ⟨rfl, by simpa using hb⟩

/-- In one. -/
theorem sorted_any (p : Option Nat) (E : List (ByteArray × Rec)) (w : World) (hown : NMap w p E) (hlen : E.length ≤ 1000) :
    Calls Tryz.prog 137 #[.func (.func 184) #[] #[.pointer (some ⟨w.heap.size, 0, none⟩)]] (w.alloc (.cells #[.map p] 149)) fun e w' => ∃ a c, e = .returned (.slice a E.length c) ∧ Strs w' a (E.map (·.1)) ∧ (∀ x, a = some x → w.heap.size < x.block ∧ x.block < w'.heap.size) ∧ Below w.heap.size w w' := by
  have hb0 : ∀ o, Below w.heap.size w (w.alloc o) := up (Below.refl _ _)
  rcases hown with ⟨rfl, rfl⟩ | ⟨b, rfl, hn⟩
  · exact (sorted_none w).mono fun e w' ⟨h1, h2⟩ => ⟨none, 0, h1, ⟨by simp, by simp⟩, (fun x hx => by cases hx), (hb0 _).trans (h2.mono (by omega))⟩
  · exact (sorted_some b E w hn hlen).mono fun e w' ⟨a, c, h1, h2, h4, h3⟩ => ⟨a, c, h1, h2, h4, (hb0 _).trans (h3.mono (by omega))⟩

end Go.Proofs.YthneemgpifbehaaGreatDoor
