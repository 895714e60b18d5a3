/- The library's sorted keys of the map of what is undecided: the gangs' numbers, rising, as they stand in the list. -/
import Derived.Test.YthneemgpifbehaaGreatDoorMg11
import Derived.Test.YthneemgpifbehaaGreatDoorMg06
import Derived.Test.YthneemgpifbehaaGreatDoorMg23
import Derived.Test.YthneemgpifbehaaGreatDoorMg38
import Derived.Test.YthneemgpifbehaaGreatDoorMg39
namespace Go.Proofs.YthneemgpifbehaaGreatDoor
open Go.RowKit Go.Maps Go.Sort Go.Shelf
set_option linter.unusedSimpArgs false
set_option linter.unusedVariables false

/-- A row of numbers. -/
def Zs (w : World) (a : Option Addr) (zs : List Int) : Prop := ∀ i, i < zs.length → ∃ x, a = some x ∧ w.cell? (x.add i) = some (.int .i64 (zs.getD i 0))
theorem Zs.frame {w w' : World} {a : Option Addr} {zs : List Int} (h : Zs w a zs) (hk : ∀ y, a = some y → zs ≠ [] → w'.heap[y.block]? = w.heap[y.block]?) : Zs w' a zs := fun i hi => by
  obtain ⟨x, hx, hc⟩ := h i hi
  refine ⟨x, hx, ?_⟩
  rw [← hc]
  exact World.cell?_of_block (by rw [add_block]; exact hk x hx (by intro e; simp [e] at hi))

theorem rising_keysI {ρ : Type} (val : ρ → Value) : ∀ (M : List (Int × ρ)), DataW.rising (M.map fun p => (iK p.1, DataW.held (val p.2))) = true → (M.map (·.1)).Pairwise (· < ·)
  | [], _ => List.Pairwise.nil
  | [_], _ => by simp
  | a :: b :: t, h => by
    simp only [List.map_cons, DataW.rising, Bool.and_eq_true] at h
    have h2 := rising_keysI val (b :: t) h.2
    have hab : a.1 < b.1 := by
      have := h.1
      simpa [iK, Lit.before] using this
    rw [List.map_cons, List.pairwise_cons]
    refine ⟨fun x hx => ?_, h2⟩
    rw [List.map_cons] at hx
    rcases List.mem_cons.1 hx with rfl | hx
    · exact hab
    · rw [List.map_cons, List.pairwise_cons] at h2
      exact Int.lt_trans hab (h2.1 x hx)
theorem MOwn.rising {ρ : Type} {val : ρ → Value} {w : World} {b : Nat} {M : List (Int × ρ)} (h : MOwn val w b M) : (M.map (·.1)).Pairwise (· < ·) := by
  obtain ⟨es, clock, _, F, _, hD⟩ := h
  have := fit_rising kI F
  simp only [encD, DataW.map.injEq] at hD
  rw [← hD] at this
  exact rising_keysI val M this

theorem sortsI_any (m : Nat) : AnyZI.SortsIn Tryz.prog Tryz.sortedI_ren Fence.wide m :=
  ⟨fun blk off cap ss W hH hblk hsz => callsIn_wide.2 (AnyM.slices_Sort_int Tryz.sortI blk off cap ss W hH hblk hsz),
   fun p cap W => callsIn_wide.2 (AnyM.slices_Sort_int_none Tryz.sortI p cap W)⟩

theorem keysI_any (mb : Option Nat) (W : World) : Calls Tryz.prog 64 #[.map mb] W fun e w' => e = .returned (.func (.func 122) #[] #[.pointer (some ⟨W.heap.size, 0, none⟩)]) ∧ w' = W.alloc (.cells #[.map mb] 88) :=
  (callsIn_wide (n := 5)).1 (AnyZI.keys_in Tryz.keysI Fence.wide 5 trivial rfl mb W)

theorem sortedI_some (b : Nat) (M : List (Int × Und)) (w : World) (hown : MOwn Und.val w b M) (hlen : M.length ≤ 100000) :
    Calls Tryz.prog 63 #[.func (.func 122) #[] #[.pointer (some ⟨w.heap.size, 0, none⟩)]] (w.alloc (.cells #[.map (some b)] 88)) fun e w' => ∃ a c, e = .returned (.slice a M.length c) ∧ Zs w' a (M.map (·.1)) ∧ (∀ x, a = some x → w.heap.size < x.block ∧ x.block < w'.heap.size) ∧ Below w.heap.size w w' := by
  have hb0 : ∀ o, Below w.heap.size w (w.alloc o) := up (Below.refl _ _)
  have hbl := hown.lt
  have hrise := hown.rising
  have hsz : Maps.size (encD iK Und.val M) = M.length := encD_size _ _ _
  have hseq : SeqGives Fence.wide 2 Tryz.prog 122 #[.pointer (some ⟨w.heap.size, 0, none⟩)] encZ (fun ss => ss.Perm (intKeys (encD iK Und.val M))) (Maps.size (encD iK Und.val M)) (w.alloc (.cells #[.map (some b)] 88)) :=
    AnyZI.keys_gives (ρ := Tryz.keysI_ren) { Tryz.keysI with } Fence.wide _ trivial rfl (by omega) w.heap.size b M.length _ _ (by simp) (by simp) (show MOwn Und.val _ b M from hown.kept (Below.heap_alloc _ _ b hbl))
  have cS := AnyZI.sorted_in Tryz.sortedI Fence.wide 5 trivial trivial trivial trivial rfl (by omega) (sortsI_any _) (enters_of Tryz.func121 (by kernel_rfl) rfl) 122 #[.pointer (some ⟨w.heap.size, 0, none⟩)] trivial (enters_of Tryz.func122 (by kernel_rfl) rfl) _ _ (by rw [hsz]; unfold maxLen; omega) (by rw [hsz]; omega) _ hseq
  change CallsIn _ _ Tryz.prog 63 _ _ _ at cS
  refine ((callsIn_wide (n := 5)).1 cS).mono ?_
  rintro e w' ⟨v, ss, rfl, hS, hrow, hnil, hb⟩
  have hk : intKeys (encD iK Und.val M) = M.map (·.1) := by
    simp only [intKeys, encD, List.map_map]
    exact List.map_congr_left fun _ _ => rfl
  rw [hk] at hS
  have hle : (M.map (·.1)).Pairwise (fun a b => decide (a ≤ b) = true) := hrise.imp fun h => by simpa using Int.le_of_lt h
  have hms : (ss.mergeSort (fun x y => decide (x ≤ y))) = M.map (·.1) := by
    have h1 : (ss.mergeSort (fun x y => decide (x ≤ y))).Perm (M.map (·.1)) := (List.mergeSort_perm _ _).trans hS
    have h2 : (ss.mergeSort (fun x y => decide (x ≤ y))).Pairwise (fun a b => decide (a ≤ b) = true) := List.pairwise_mergeSort (fun a b c h1 h2 => by simp at *; omega) (fun a b => by simp; omega) ss
    refine h1.eq_of_pairwise (le := fun a b => decide (a ≤ b) = true) ?_ h2 hle
    intro a b _ _ h1 h2
    simp at h1 h2
    omega
  rw [hms] at hrow
  have hl : ss.length = M.length := by rw [hS.length_eq]; simp
  rw [hl] at hrow
  have hwb : Below w.heap.size w w' := (hb0 _).trans (hb.mono (by simp))
  obtain ⟨hlen', hv⟩ := hrow
  rcases hv with ⟨rfl, h0⟩ | ⟨g, cap, cur, rfl, hg, hheap, hcap, hmax, hcs, htake⟩
  · have : M = [] := List.eq_nil_of_length_eq_zero h0
    subst this
    exact ⟨none, 0, rfl, fun i hi => by simp at hi, (fun x hx => by cases hx), hwb⟩
  · refine ⟨some ⟨g, 0, none⟩, cap, rfl, fun i hi' => ⟨_, rfl, ?_⟩, (fun x hx => by cases hx; exact ⟨by simp at hg; exact hg, (Array.getElem?_eq_some_iff.1 hheap).1⟩), hwb⟩
    have hown : w'.ownsRow (w.alloc (.cells #[.map (some b)] 88)).heap.size 3 1 (.slice (some ⟨g, 0, none⟩) M.length cap) M.length ((M.map (·.1)).map encZ) := ⟨hlen', .inr ⟨g, cap, cur, rfl, hg, hheap, hcap, hmax, hcs, htake⟩⟩
    exact hown.cells (g := g) rfl i _ (by simp [List.getD, List.getElem?_eq_getElem (show i < M.length by simpa using hi'), encZ])

end Go.Proofs.YthneemgpifbehaaGreatDoor

/- A shard: Tick, where nothing is undecided, and where one gang is held. -/
namespace Go.Proofs.YthneemgpifbehaaGreatDoor
open Go.RowKit Go.Maps
set_option linter.unusedSimpArgs false
set_option linter.unusedVariables false

section
variable {w : World} {S T : Nat} {fp : Nat → Prop} {x : ShS}

set_option maxRecDepth 100000 in
set_option maxHeartbeats 2000000 in
/-- A lease goes on. -/
theorem qwane_more (h : IsS w S T fp x) (hU : x.U.length ≤ 100000) (g n : Int) (hg : (Lit.int .i64 g).wf = true) (hn : 0 < n) :
    Calls Tryz.prog 65 #[.pointer (some ⟨S, 0, none⟩), .int .i64 g, .int .i64 n] w fun e w' => e = .returned (.tuple #[]) ∧ ∃ fp', IsS w' S T fp' (setU x g (.held n)) ∧ Turn w w' fp fp' := by
  obtain ⟨Lg, u, d, v, col, rfl, h⟩ := h
  have c4 := h.c4
  obtain ⟨w4, hrun, h4, hT4⟩ := updU h g hg hU (.held n) trivial
  simp only [Und.val] at hrun
  clear h
  go_enter Tryz.func65, Tryz.ntmps65
  go_wp2
  refine bodyPost_ret (v := .tuple #[]) (by simp [results, Tryz.results65, go_sem]) rfl ?_
  exact ⟨rfl, _, ⟨Lg, u, d, v, col, rfl, h4⟩, hT4⟩

/-- A gang's room is given back; nothing is undecided of it. -/
def lostS (x : ShS) (g : Int) : ShS := { x with G := del x.G g, U := del x.U g }

set_option maxRecDepth 100000 in
set_option maxHeartbeats 2000000 in
/-- A lease ends. -/
theorem qwane_end (h : IsS w S T fp x) (hG : x.G.length ≤ 1000) (g n : Int) (hg : (Lit.int .i64 g).wf = true) (hn : n ≤ 0) :
    Calls Tryz.prog 65 #[.pointer (some ⟨S, 0, none⟩), .int .i64 g, .int .i64 n] w fun e w' => e = .returned (.tuple #[]) ∧ ∃ fp', IsS w' S T fp' (lostS x g) ∧ Turn w w' fp fp' := by
  obtain ⟨Lg, u, d, v, col, rfl, h⟩ := h
  have c3 := h.c3
  have kg := give_sh h g hg hG
  have hn' : ¬ 0 < n := by omega
  clear hn h
  go_enter Tryz.func65, Tryz.ntmps65
  go_wp2_with (first
    | (go_at_call 114; refine kg.mono ?_
       rintro e w2 ⟨rfl, col2, h2, hT2⟩
       have c4 := h2.c4
       have hu := h2.und)
    | (at_delete; refine wpList_delete_own _ rfl _ _ 88 3 rfl 20 kI Tryz.underlying88 raw u _ _ rfl hu _ _ rfl (keyI hg) ?_; intro w3 hown3 hturn3
       have hg3 := hturn3.grown
       obtain ⟨h3, hT3⟩ := h2.mapU (MOwn.del hown3) hg3 (fun e he => h2.ok e (mem_del.1 he).1)
       go_frame)
    | go_in)
  go_end0
  exact ⟨rfl, _, ⟨Lg, u, d, v, col2, rfl, h3⟩, hT2.trans hT3⟩

set_option maxRecDepth 100000 in
set_option maxHeartbeats 4000000 in
/-- Nothing is undecided. -/
theorem qtick_nil (h : IsS w S T fp x) (hU : x.U = []) :
    Calls Tryz.prog 27 #[.pointer (some ⟨S, 0, none⟩)] w fun e w' => e = .returned (.slice none 0 0) ∧ IsS w' S T fp x ∧ Below w.heap.size w w' := by
  have hx := fun W (hb : Below w.heap.size w W) => h.later hb
  obtain ⟨Lg, u, d, v, col, rfl, h⟩ := h
  have c4 := h.c4
  have hu := h.und
  rw [hU] at hu
  have ks := sortedI_some u [] w hu (by simp)
  simp only [List.length_nil] at ks
  clear h hU hu
  go_enter Tryz.func27, Tryz.ntmps27
  go_wp2_with (first
    | (go_at_call 64; refine (keysI_any _ _).mono ?_; rintro e w1 ⟨rfl, rfl⟩)
    | (go_at_call 63; refine ks.mono ?_; rintro e w2 ⟨a, c, rfl, _, _, hb2⟩))
  have hx2 := hx _ hb2
  clear hx
  go_loop [3, 15] (fun l i => l = .slice none 0 0 ∧ i = .int .i64 0) (fun _ _ => 0)
  case atStart => exact ⟨rfl, rfl⟩
  case round =>
    obtain ⟨rfl, rfl⟩ := hrel
    go_wp2
    go_ret
    exact ⟨rfl, hx2, hb2⟩

set_option maxRecDepth 100000 in
set_option maxHeartbeats 4000000 in
/-- One gang is held; its lease goes on, or ends. -/
theorem qtick_held (h : IsS w S T fp x) (hG : x.G.length ≤ 1000) (g n : Int) (hg : (Lit.int .i64 g).wf = true) (hn : 1 ≤ n) (hn2 : n ≤ 1000) (hU : x.U = [(g, .held n)]) :
    Calls Tryz.prog 27 #[.pointer (some ⟨S, 0, none⟩)] w fun e w' => e = .returned (.slice none 0 0) ∧ ∃ fp', IsS w' S T fp' (if n = 1 then lostS x g else setU x g (.held (n - 1))) ∧ Turn w w' fp fp' := by
  have hx := fun W (hb : Below w.heap.size w W) => h.later hb
  have hlt := h.lt
  obtain ⟨Lg, u, d, v, col, rfl, h⟩ := h
  have c4 := h.c4
  have cW := fun W (hb : Below w.heap.size w W) => (h.later hb).c4
  have hu := h.und
  have lW := fun W (hb : Below w.heap.size w W) => (h.later hb).und.look1 .nilIface Tryz.underlying88 (zero_any W) g hg
  simp only [hU, look, List.find?_cons, decide_true, Option.map_some, Option.getD_some, Und.val] at lW
  have hU' := hU
  rw [hU] at hu
  have ks := sortedI_some u [(g, .held n)] w hu (by simp)
  simp only [List.length_cons, List.length_nil, Nat.zero_add] at ks
  have kw : ∀ W, Below w.heap.size w W → Calls Tryz.prog 65 #[.pointer (some ⟨S, 0, none⟩), .int .i64 g, .int .i64 (n - 1)] W fun e w' => e = .returned (.tuple #[]) ∧ ∃ fp', IsS w' S T fp' (if n = 1 then lostS x g else setU x g (.held (n - 1))) ∧ Turn W w' (inC col) fp' := fun W hb => by
    by_cases h1 : n = 1
    · rw [if_pos h1]
      exact qwane_end (hx W hb) hG g (n - 1) hg (by omega)
    · rw [if_neg h1]
      exact qwane_more (hx W hb) (by rw [hU']; simp) g (n - 1) hg (by omega)
  have t1 := fun W => ta_held n W
  obtain ⟨X, hX⟩ : ∃ X, (if n = 1 then lostS x g else setU x g (.held (n - 1))) = X := ⟨_, rfl⟩
  rw [hX] at kw ⊢
  clear h hU hu hU' hx hX
  go_enter Tryz.func27, Tryz.ntmps27
  go_wp2_with (first
    | (go_at_call 64; refine (keysI_any _ _).mono ?_; rintro e w1 ⟨rfl, rfl⟩)
    | (go_at_call 63; refine ks.mono ?_; rintro e w2 ⟨a, c, rfl, hz, hn2', hb2⟩))
  obtain ⟨y, rfl, hc⟩ := hz 0 (by simp)
  simp only [List.map_cons, List.map_nil, List.getD_cons_zero] at hc
  have hy0 : y.add 0 = y := by
    obtain ⟨b, o, p⟩ := y
    cases p <;> rfl
  rw [hy0] at hc
  have c42 := cW _ hb2
  have l42 := lW _ hb2
  have kw2 := kw _ hb2
  have hT0 : Turn w w2 (inC col) (inC col) := .of_below hb2
  clear cW lW kw ks
  go_loopw [3, 15] (fun l i wr => l = .slice none 0 0 ∧ ((i = .int .i64 0 ∧ wr = w2) ∨ (i = .int .i64 1 ∧ ∃ fp', IsS wr S T fp' X ∧ Turn w wr (inC col) fp'))) (fun _ i _ => 1 - (intOf i).toNat)
  case atStart => exact ⟨rfl, .inl ⟨rfl, rfl⟩⟩
  case round =>
    obtain ⟨rfl, ⟨rfl, rfl⟩ | ⟨rfl, fp3, h3, hT3⟩⟩ := hrel
    · go_wp2_with (go_at_call 65; refine kw2.mono ?_; rintro e w3 ⟨rfl, fp3, h3, hT3⟩)
      go_roundw
      case rel => exact ⟨rfl, .inr ⟨rfl, fp3, h3, hT0.trans hT3⟩⟩
      case measure => simp [intOf]
    · go_wp2
      go_ret
      exact ⟨rfl, fp3, h3, hT3⟩
end

end Go.Proofs.YthneemgpifbehaaGreatDoor

/- A shard among a walk's own variables. -/
namespace Go.Proofs.YthneemgpifbehaaGreatDoor
open Go.RowKit Go.Maps
set_option linter.unusedSimpArgs false
set_option linter.unusedVariables false

/-- A shard, and variables beside it, which lie in blocks of their own. -/
structure Site (B : Nat) (w0 : World) (S T : Nat) (l : List (Nat × Array Value × TypeId)) (x : ShS) (fp : Nat → Prop) (w : World) : Prop where
  s : IsS w S T fp x
  bx : ∀ q ∈ l, Box w q.1 q.2.1 q.2.2 ∧ ¬ fp q.1
  low : ∀ b, fp b → B ≤ b
  below : Below B w0 w
  base : Base B w

section
variable {B : Nat} {w0 w w' : World} {S T : Nat} {l : List (Nat × Array Value × TypeId)} {x x' : ShS} {fp fp' : Nat → Prop}
theorem Site.turn (h : Site B w0 S T l x fp w) (h' : IsS w' S T fp' x') (hT : Turn w w' fp fp') : Site B w0 S T l x' fp' w' :=
  have hb := hT.on h.low h.base.le
  ⟨h', fun q hq => ⟨hT.kept.box (h.bx q hq).1 (h.bx q hq).2, fun hc => by
    rcases hT.new _ hc with e | e
    · exact (h.bx q hq).2 e
    · have := (h.bx q hq).1.lt; omega⟩, hT.low' h.low h.base.le, h.below.trans hb, h.base.on hb⟩
theorem Site.later (h : Site B w0 S T l x fp w) (hb : Below w.heap.size w w') : Site B w0 S T l x fp w' := h.turn (h.s.later hb) (.of_below hb)
theorem Site.add (h : Site B w0 S T l x fp w) {D : Nat} {cs : Array Value} {t : TypeId} (hD : Box w D cs t) (hn : ¬ fp D) : Site B w0 S T ((D, cs, t) :: l) x fp w :=
  ⟨h.s, fun q hq => by
    rcases List.mem_cons.1 hq with rfl | hq
    · exact ⟨hD, hn⟩
    · exact h.bx q hq, h.low, h.below, h.base⟩
/-- A new variable. -/
theorem Site.new (h : Site B w0 S T l x fp w) (cs : Array Value) (t : TypeId) : Site B w0 S T ((w.heap.size, cs, t) :: l) x fp (w.alloc (.cells cs t)) :=
  (h.later (up (Below.refl _ _) _)).add (Box.new w cs t rfl) fun hc => by have := h.s.lt _ hc; omega
theorem Site.head {D : Nat} {cs : Array Value} {t : TypeId} (h : Site B w0 S T ((D, cs, t) :: l) x fp w) : Box w D cs t := (h.bx _ (List.mem_cons_self ..)).1
theorem Site.tail {q : Nat × Array Value × TypeId} (h : Site B w0 S T (q :: l) x fp w) : Site B w0 S T l x fp w := ⟨h.s, fun p hp => h.bx p (List.mem_cons_of_mem _ hp), h.low, h.below, h.base⟩
end

/-- What Open and Node leave. -/
theorem open_site {w0 w w' : World} {B : Nat} {mode : Int} {W : Nat} (hB : Base B w) (hw : Below B w0 w) (h : OpenPost w mode W w') : ∃ S T X Y fp, Site B w0 S T [(W, #[.pointer (some ⟨S, 0, none⟩), .pointer (some ⟨T, 0, none⟩), .pointer (some ⟨X, 0, none⟩), .pointer (some ⟨Y, 0, none⟩), .int .i64 mode], 33)] (newS 1 mode) fp w' := by
  obtain ⟨S, T, X, Y, fp, h1, h2, h3, h4, h5, h6⟩ := h
  have hb := h6.mono hB.le
  refine ⟨S, T, X, Y, fp, h2, fun q hq => ?_, fun b hb => Nat.le_trans hB.le (h5 b hb), hw.trans hb, hB.on hb⟩
  obtain rfl := List.mem_singleton.1 hq
  exact ⟨h1, h4⟩

end Go.Proofs.YthneemgpifbehaaGreatDoor
