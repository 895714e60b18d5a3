/- The walk of SpecSlices. -/
import Derived.Test.YtgcicillmljglaaRS
import Derived.Test.YtgcicillmljglaaSH1
import Derived.Test.YtgcicillmljglaaI
import Derived.Test.YtgcicillmljglaaFG
import Derived.Test.YtgcicillmljglaaGO
namespace Go.Proofs.Ytgcicillmljglaa
open Go.RowKit Go.Maps
set_option linter.unusedSimpArgs false
set_option linter.unusedVariables false

theorem cfGang (args : Array Value) (w : World) : (callFunc 22 args).run Try.prog w = .ok (.enter 22 args) w := by kernel_rfl
theorem cfSlice (args : Array Value) (w : World) : (callFunc 28 args).run Try.prog w = .ok (.enter 28 args) w := by kernel_rfl
theorem cfrSlice (args : Array Value) (w : World) : (callFunc 30 args).run Try.prog w = .ok (.enter 30 args) w := by kernel_rfl
theorem cfrPods (args : Array Value) (w : World) : (callFunc 29 args).run Try.prog w = .ok (.enter 29 args) w := by kernel_rfl

/-- A gang's pods. -/
structure GP (w : World) (a : Option Addr) (n c : Nat) (l : List PodT) : Prop where
  len : l.length = n
  few : n ≤ 14
  pods : Pods w a l
theorem GP.later {w w' : World} {a : Option Addr} {n c : Nat} {l : List PodT} (h : GP w a n c l) (hb : Below w.heap.size w w') : GP w' a n c l := ⟨h.len, h.few, h.pods.later hb⟩
/-- A slice's pods. -/
structure SL9 (w : World) (a : Option Addr) (n : Nat) (l' l : List PodT) (z : Int) : Prop where
  len : l'.length = n
  pods : Pods w a l'
  data : l'.map PodT.data = (inShard z l).map PodT.data
theorem SL9.later {w w' : World} {a : Option Addr} {n : Nat} {l' l : List PodT} {z : Int} (h : SL9 w a n l' l z) (hb : Below w.heap.size w w') : SL9 w' a n l' l z := ⟨h.len, h.pods.later hb, h.data⟩
theorem SL9.count {w : World} {a : Option Addr} {n : Nat} {l' l : List PodT} {z : Int} (h : SL9 w a n l' l z) : (inShard z l).length = n := by
  have := congrArg List.length h.data
  simp only [List.length_map] at this
  rw [← this]; exact h.len

theorem lGang_gp (id : Int) (a5 : Option Addr) (len5 cap5 : Nat) (z5 : List Int) (W : World) (hrow : HasRow W a5 len5 z5) :
    Calls Try.prog 22 #[.int .i64 id, .slice a5 len5 cap5, .int .i64 4] W fun e w' => ∃ a n c l, e = .returned (.agg #[.int .i64 (1 + id % 999999), .slice a n c]) ∧ GP w' a n c l ∧ Below W.heap.size W w' := by
  refine (lGang_is id 4 a5 len5 cap5 z5 W (by decide) (by decide) hrow).mono ?_
  rintro e w' ⟨v, l, rfl, ho, hd, hb⟩
  obtain ⟨hE, h1, h8, -⟩ := gang_good (by decide : (0 : Int) < 4) id z5 len5 hd
  obtain ⟨a, c, rfl, hc, hp⟩ := ho.pods (by omega)
  exact ⟨a, l.length, c, l, rfl, ⟨rfl, by omega, hp⟩, hb⟩
theorem slice_sl (id S : Int) (a : Option Addr) (c n : Nat) (l : List PodT) (w : World) (h : GP w a n c l) :
    Calls Try.prog 28 #[.agg #[.int .i64 id, .slice a n c], .int .i64 S] w fun e w' => ∃ a' n' c' l', e = .returned (.slice a' n' c') ∧ SL9 w' a' n' l' l S ∧ Below w.heap.size w w' := by
  refine (slice_any id S a c n l w h.len h.pods).mono ?_
  rintro e w' ⟨v, l', rfl, h1, h2, h3, h4, h5⟩
  have hl' : l'.length ≤ 1000 := by
    have := congrArg List.length h2
    simp only [List.length_map] at this
    rw [this]
    exact Nat.le_trans (List.length_filter_le _ _) (by have := h.len; have := h.few; omega)
  obtain ⟨a', c', rfl, _, _, hp, _⟩ := pods_of_own h1 (fun p hp => (h3 p hp).ok) hl'
  exact ⟨a', _, c', l', rfl, ⟨rfl, hp, h2⟩, h5⟩
theorem rSlice_sl (id S : Int) (a : Option Addr) (c n : Nat) (l : List PodT) (w : World) (h : GP w a n c l) :
    Calls Try.prog 30 #[.agg #[.int .i64 id, .slice a n c], .int .i64 S] w fun e w' => ∃ a' n' c' l', e = .returned (.slice a' n' c') ∧ SL9 w' a' n' l' l S ∧ Below w.heap.size w w' := by
  refine (rSlice_any id S a c n l w h.len h.pods).mono ?_
  rintro e w' ⟨v, l', rfl, h1, h2, h3, h4, h5⟩
  have hl' : l'.length ≤ 1000 := by
    have := congrArg List.length h2
    simp only [List.length_map] at this
    rw [this]
    exact Nat.le_trans (List.length_filter_le _ _) (by have := h.len; have := h.few; omega)
  obtain ⟨a', c', rfl, _, _, hp, _⟩ := pods_of_own h1 (fun p hp => (h3 p hp).ok) hl'
  exact ⟨a', _, c', l', rfl, ⟨rfl, hp, h2⟩, h5⟩

/-- How many pods there are in these shards. -/
def tot (l : List PodT) (zs : List Int) : Nat := (zs.map fun z => (inShard z l).length).sum
theorem tot_one (x : Int) : ∀ zs : List Int, zs.Pairwise (· < ·) → (zs.map fun z => if x = z then 1 else 0).sum = if x ∈ zs then 1 else 0
  | [], _ => by simp
  | z :: zs, h => by
    rw [List.pairwise_cons] at h
    have ih := tot_one x zs h.2
    simp only [List.map_cons, List.sum_cons, ih, List.mem_cons]
    by_cases e : x = z
    · subst e
      have : x ∉ zs := fun hm => by have := h.1 x hm; omega
      simp [this]
    · simp [e]
theorem sum_add (f g : Int → Nat) : ∀ zs : List Int, (zs.map fun z => f z + g z).sum = (zs.map f).sum + (zs.map g).sum
  | [] => rfl
  | z :: zs => by simp only [List.map_cons, List.sum_cons, sum_add f g zs]; omega
theorem sum_zero : ∀ zs : List Int, (zs.map fun _ => (0 : Nat)).sum = 0
  | [] => rfl
  | _ :: zs => by simp only [List.map_cons, List.sum_cons, sum_zero zs]
theorem tot_all (zs : List Int) (hz : zs.Pairwise (· < ·)) : ∀ l : List PodT, (∀ p ∈ l, p.shard ∈ zs) → tot l zs = l.length
  | [], _ => by
    unfold tot
    have : (zs.map fun z => (inShard z ([] : List PodT)).length) = zs.map fun _ => 0 := by simp [inShard]
    rw [this, sum_zero]
    rfl
  | p :: l, h => by
    have ih := tot_all zs hz l (fun q hq => h q (by simp [hq]))
    have e : (zs.map fun z => (inShard z (p :: l)).length) = zs.map fun z => (if p.shard = z then 1 else 0) + (inShard z l).length := by
      apply List.map_congr_left
      intro z _
      unfold inShard
      by_cases e : p.shard = z
      · simp [e]; omega
      · simp [e]
    unfold tot at ih ⊢
    rw [e, sum_add, ih, tot_one _ _ hz, if_pos (h p (by simp))]
    simp; omega
theorem tot_snoc (l : List PodT) (zs : List Int) (k : Nat) (h : k < zs.length) : tot l (zs.take (k + 1)) = tot l (zs.take k) + (inShard zs[k] l).length := by
  unfold tot
  rw [List.take_succ_eq_append_getElem h, List.map_append, List.sum_append]
  simp
theorem tot_le (l : List PodT) (zs : List Int) (hz : zs.Pairwise (· < ·)) (hm : ∀ p ∈ l, p.shard ∈ zs) (k : Nat) : tot l (zs.take k) ≤ l.length := by
  have h1 := tot_all zs hz l hm
  have h2 : tot l zs = tot l (zs.take k) + tot l (zs.drop k) := by
    unfold tot
    rw [← List.sum_append, ← List.map_append, List.take_append_drop]
  omega

def sliA (idr gid id : Int) (ar a5 : Option Addr) (nr cr len5 cap5 : Nat) : Nat → Value → World → Prop
  | 0, q0, _ => q0 = .agg #[.int .i64 idr, .slice ar nr cr]
  | 1, q0, _ => q0 = .int .i64 id
  | 2, q0, _ => q0 = .slice a5 len5 cap5
  | 3, q0, w => ∃ ga gn gc gl, q0 = .agg #[.int .i64 gid, .slice ga gn gc] ∧ GP w ga gn gc gl
  | 4, q0, w => ∃ ga gn gc gl D, q0 = .slice (some ⟨D, 0, none⟩) 2 2 ∧ (GP w ga gn gc gl ∧ Box w D #[.int .i64 idr, .slice ar nr cr, .int .i64 gid, .slice ga gn gc] 47)
  | 5, q0, w => ∃ ga gn gc gl D, q0 = .slice (some ⟨D, 0, none⟩) 2 2 ∧ (GP w ga gn gc gl ∧ Box w D #[.int .i64 idr, .slice ar nr cr, .int .i64 gid, .slice ga gn gc] 47)
  | _, _, _ => True

def sliB (D5 ii ni ci g mz cz k : Nat) (gi z : Int) (ai : Option Addr) (li : List PodT) : Nat → Value → World → Prop
  | 0, q0, _ => q0 = .slice (some ⟨D5, 0, none⟩) 2 2
  | 1, q0, _ => q0 = .int .i64 ii
  | 2, q0, _ => q0 = .pointer (some ⟨D5, ii * 2, none⟩)
  | 3, q0, _ => q0 = .agg #[.int .i64 gi, .slice ai ni ci]
  | 4, q0, _ => q0 = .slice (some ⟨g, 0, none⟩) mz cz
  | 5, q0, _ => q0 = .int .i64 k
  | 6, q0, _ => q0 = .pointer (some ⟨g, k, none⟩)
  | 7, q0, _ => q0 = .int .i64 z
  | 8, q0, w => ∃ pa9 pn9 pc9 pl9, q0 = .slice pa9 pn9 pc9 ∧ SL9 w pa9 pn9 pl9 li z
  | 9, q0, w => ∃ pa9 pn9 pc9 pl9, q0 = .slice pa9 pn9 pc9 ∧ SL9 w pa9 pn9 pl9 li z
  | _, _, _ => True

def sliC (D5 ii ni ci g mz cz k pn pc : Nat) (gi z : Int) (ai pa : Option Addr) (li : List PodT) : Nat → Value → World → Prop
  | 0, q0, _ => q0 = .slice pa pn pc
  | 1, q0, _ => q0 = .slice (some ⟨D5, 0, none⟩) 2 2
  | 2, q0, _ => q0 = .int .i64 ii
  | 3, q0, _ => q0 = .pointer (some ⟨D5, ii * 2, none⟩)
  | 4, q0, _ => q0 = .agg #[.int .i64 gi, .slice ai ni ci]
  | 5, q0, _ => q0 = .slice (some ⟨g, 0, none⟩) mz cz
  | 6, q0, _ => q0 = .int .i64 k
  | 7, q0, _ => q0 = .pointer (some ⟨g, k, none⟩)
  | 8, q0, _ => q0 = .int .i64 z
  | 9, q0, w => ∃ ra rc rl, q0 = .slice ra pn rc ∧ SL9 w ra pn rl li z
  | 10, q0, _ => q0 = .bool true
  | 11, q0, _ => q0 = .bool false
  | 12, q0, _ => q0 = .bool false
  | 13, q0, _ => q0 = .slice pa pn pc
  | 14, q0, _ => q0 = .int .i64 pn
  | 15, q0, _ => q0 = .bool false
  | 16, q0, _ => q0 = .bool false
  | _, _, _ => True

def sliD (D5 ii ni ci N77 : Nat) (gi : Int) (ai : Option Addr) : Nat → Value → World → Prop
  | 0, q0, _ => q0 = .int .i64 ni
  | 1, q0, _ => q0 = .slice (some ⟨D5, 0, none⟩) 2 2
  | 2, q0, _ => q0 = .int .i64 ii
  | 3, q0, _ => q0 = .pointer (some ⟨D5, ii * 2, none⟩)
  | 4, q0, _ => q0 = .pointer (some ⟨D5, ii * 2 + 1, none⟩)
  | 5, q0, _ => q0 = .slice ai ni ci
  | 6, q0, _ => q0 = .int .i64 ni
  | 7, q0, _ => q0 = .bool false
  | 8, q0, _ => q0 = .bool false
  | 9, q0, _ => q0 = .slice (some ⟨D5, 0, none⟩) 2 2
  | 10, q0, _ => q0 = .int .i64 ii
  | 11, q0, _ => q0 = .pointer (some ⟨D5, ii * 2, none⟩)
  | 12, q0, _ => q0 = .agg #[.int .i64 gi, .slice ai ni ci]
  | 13, q0, w => ∃ ra rc, q0 = .slice ra N77 rc ∧ True
  | 14, q0, _ => q0 = .int .i64 N77
  | 15, q0, _ => q0 = .slice (some ⟨D5, 0, none⟩) 2 2
  | 16, q0, _ => q0 = .int .i64 ii
  | 17, q0, _ => q0 = .pointer (some ⟨D5, ii * 2, none⟩)
  | 18, q0, _ => q0 = .agg #[.int .i64 gi, .slice ai ni ci]
  | 19, q0, w => ∃ ra rc, q0 = .slice ra N77 rc ∧ True
  | 20, q0, _ => q0 = .int .i64 N77
  | 21, q0, _ => q0 = .bool false
  | 22, q0, _ => q0 = .bool false
  | _, _, _ => True

set_option maxRecDepth 100000 in
set_option maxHeartbeats 16000000 in
theorem specSlices_walk (idr : Int) (ar : Option Addr) (nr cr : Nat) (lr : List PodT) (id : Int) (a5 : Option Addr) (len5 cap5 : Nat) (z5 : List Int) (w : World)
    (e1 : lr.length = nr) (hnr : nr ≤ cr) (hin : PodsIn w ar lr) (w5 : IsRow .i64 w a5 len5 cap5 z5) :
    Calls Try.prog 6 #[.agg #[.int .i64 idr, .slice ar nr cr], .int .i64 id, .slice a5 len5 cap5] w fun e w' => e = .returned (.bool true) ∧ Below w.heap.size w w' := by
  replace w5 := w5.has
  have h0 := up (Below.refl w.heap.size w) (.cells #[.int .i64 idr, .slice ar nr cr] 47)
  obtain ⟨few, hfew⟩ : ∃ b, fewG lr = b := ⟨_, rfl⟩
  have kF := fun W (h : Below w.heap.size w W) => fewGang_any idr ar cr nr lr W e1 (hin.later h)
  rw [hfew] at kF
  have q1 : Box (w.alloc (.cells #[.int .i64 idr, .slice ar nr cr] 47)) w.heap.size #[.int .i64 idr, .slice ar nr cr] 47 := Box.new _ _ _ rfl
  cases few
  · clear hin w5
    go_enter Try.func6, Try.ntmps6
    go_wp2_with (first
      | (go_at_call 9; refine (known_on _ _ (Below.refl _ _)).mono ?_; rintro e w1 ⟨rfl, hb1⟩
         obtain ⟨r0, r1⟩ := (q1.later hb1).cells2
         have hW1 := fin hb1 h0)
      | (go_at_call 21; refine (kF _ hW1).mono ?_; rintro e w2 ⟨rfl, hb2⟩))
    go_ret
    exact ⟨rfl, fin hb2 hW1⟩
  have hfp := (fewG_parts hfew).1
  have hPr := (hin.few hfew).1
  have kg := fun W (h : Below w.heap.size w W) => lGang_gp id a5 len5 cap5 z5 W (w5.later h)
  obtain ⟨gid, hgid⟩ : ∃ x, 1 + id % 999999 = x := ⟨_, rfl⟩
  rw [hgid] at kg
  clear hin w5 hgid
  go_enter Try.func6, Try.ntmps6
  go_upto_region 5 with (first
    | (go_at_call 9; refine (known_on _ _ (Below.refl _ _)).mono ?_; rintro e w1 ⟨rfl, hb1⟩
       obtain ⟨r0, r1⟩ := (q1.later hb1).cells2
       have hW1 := fin hb1 h0)
    | (go_at_call 21; refine (kF _ hW1).mono ?_; rintro e w2 ⟨rfl, hb2⟩
       have hraw := (q1.later hb1).later hb2
       have hW2 := fin hb2 hW1))
  refine wp_region_rely (fun w1 => Below w2.heap.size w2 w1) (fun w1 w2 => Below w1.heap.size w1 w2) (sliA idr gid id ar a5 nr cr len5 cap5) (by kernel_rfl) (by kernel_rfl) (Below.refl _ _).drew ?keep ?step ?rest
  case keep =>
    intro i v w1 w2 hS hF
    unfold sliA at *
    split at hF <;> try exact hF
    · obtain ⟨ga, gn, gc, gl, hv, h1⟩ := hF
      exact ⟨ga, gn, gc, gl, hv, h1.later hS⟩
    · obtain ⟨ga, gn, gc, gl, D, hv, h1, h2⟩ := hF
      exact ⟨ga, gn, gc, gl, D, hv, h1.later hS, h2.later hS⟩
    · obtain ⟨ga, gn, gc, gl, D, hv, h1, h2⟩ := hF
      exact ⟨ga, gn, gc, gl, D, hv, h1.later hS, h2.later hS⟩
  case step =>
    intro i o d ho hd b w1 hR hold hdep
    have o1 : sl b 1 = .int .i64 id := hold 1 (by kernel_rfl)
    have o2 : sl b 2 = .slice a5 len5 cap5 := hold 2 (by kernel_rfl)
    have o3 : sl b 3 = .pointer (some ⟨w.heap.size, 0, none⟩) := hold 3 (by kernel_rfl)
    have hb0 := Below.refl w1.heap.size w1
    obtain ⟨rc0, rc1⟩ := (hraw.later hR).cells2
    rcases i with _ | _ | _ | _ | _ | _ | i
    all_goals try (cases ho; cases hd)
    · exact ok_val' rfl rfl (want_none rfl b) (by simp [go_sem, o3, rc0, rc1]) hR hb0 rfl
    · exact ok_val' rfl rfl (want_none rfl b) (by simp [go_sem, o1]) hR hb0 rfl
    · exact ok_val' rfl rfl (want_none rfl b) (by simp [go_sem, o2]) hR hb0 rfl
    · have f19 : sl b 19 = .int .i64 id := hdep 1 _ _ rfl rfl (by kernel_rfl)
      have f20 : sl b 20 = .slice a5 len5 cap5 := hdep 2 _ _ rfl rfl (by kernel_rfl)
      refine ok_enter' rfl rfl (want_none rfl b) ?_ ((kg w1 (fin hR hW2)).mono ?_)
      · simp [go_sem, f19, f20, cfGang]
      rintro e w2 ⟨ga, gn, gc, gl, rfl, h1, hb2⟩
      exact ⟨_, rfl, hR.trans (hb2.mono hR.size), hb2, ga, gn, gc, gl, rfl, h1⟩
    · have f18 : sl b 18 = .agg #[.int .i64 idr, .slice ar nr cr] := hdep 0 _ _ rfl rfl (by kernel_rfl)
      obtain ⟨ga3, gn3, gc3, gl3, f21, g21⟩ : ∃ ga gn gc gl, sl b 21 = .agg #[.int .i64 gid, .slice ga gn gc] ∧ GP w1 ga gn gc gl := hdep 3 _ _ rfl rfl (by kernel_rfl)
      exact ok_val' rfl rfl (want_none rfl b) (by simp [go_sem, f18, f21] <;> first | rfl | exact ⟨rfl, rfl⟩) (hR.alloc hR.size _) (hb0.alloc (Nat.le_refl _) _) ⟨ga3, gn3, gc3, gl3, _, rfl, g21.later (hb0.alloc (Nat.le_refl _) _), Box.new _ _ _ rfl⟩
    · obtain ⟨ga4, gn4, gc4, gl4, D4, f22, g22⟩ : ∃ ga gn gc gl D, sl b 22 = .slice (some ⟨D, 0, none⟩) 2 2 ∧ (GP w1 ga gn gc gl ∧ Box w1 D #[.int .i64 idr, .slice ar nr cr, .int .i64 gid, .slice ga gn gc] 47) := hdep 4 _ _ rfl rfl (by kernel_rfl)
      exact ok_val' rfl rfl (want_none rfl b) (by simp [go_sem, f22] <;> rfl) hR hb0 ⟨ga4, gn4, gc4, gl4, D4, rfl, g22⟩
    · cases ho
  case rest =>
    intro b w3 hR hsz hdf hold hF
    have f1 : sl b 1 = .int .i64 id := hold 1 (by kernel_rfl)
    have f2 : sl b 2 = .slice a5 len5 cap5 := hold 2 (by kernel_rfl)
    have f3 : sl b 3 = .pointer (some ⟨w.heap.size, 0, none⟩) := hold 3 (by kernel_rfl)
    obtain ⟨ga5, gn5, gc5, gl5, D5, f7, g7⟩ : ∃ ga gn gc gl D, sl b 7 = .slice (some ⟨D, 0, none⟩) 2 2 ∧ (GP w3 ga gn gc gl ∧ Box w3 D #[.int .i64 idr, .slice ar nr cr, .int .i64 gid, .slice ga gn gc] 47) := hF 5 _ _ rfl rfl
    have hB : b = _ := act_list b (show b.tmps.size = 99 from hsz) hdf
    rw [hB]
    simp only [List.range, List.range.loop, List.map_cons, List.map_nil, f1, f2, f3, f7]
    generalize sl b 0 = v0, sl b 4 = v4, sl b 5 = v5, sl b 6 = v6, sl b 8 = v8, sl b 9 = v9, sl b 10 = v10, sl b 11 = v11, sl b 12 = v12, sl b 13 = v13, sl b 14 = v14, sl b 15 = v15, sl b 16 = v16, sl b 17 = v17, sl b 18 = v18, sl b 19 = v19, sl b 20 = v20, sl b 21 = v21, sl b 22 = v22, sl b 23 = v23, sl b 24 = v24, sl b 25 = v25, sl b 26 = v26, sl b 27 = v27, sl b 28 = v28, sl b 29 = v29, sl b 30 = v30, sl b 31 = v31, sl b 32 = v32, sl b 33 = v33, sl b 34 = v34, sl b 35 = v35, sl b 36 = v36, sl b 37 = v37, sl b 38 = v38, sl b 39 = v39, sl b 40 = v40, sl b 41 = v41, sl b 42 = v42, sl b 43 = v43, sl b 44 = v44, sl b 45 = v45, sl b 46 = v46, sl b 47 = v47, sl b 48 = v48, sl b 49 = v49, sl b 50 = v50, sl b 51 = v51, sl b 52 = v52, sl b 53 = v53, sl b 54 = v54, sl b 55 = v55, sl b 56 = v56, sl b 57 = v57, sl b 58 = v58, sl b 59 = v59, sl b 60 = v60, sl b 61 = v61, sl b 62 = v62, sl b 63 = v63, sl b 64 = v64, sl b 65 = v65, sl b 66 = v66, sl b 67 = v67, sl b 68 = v68, sl b 69 = v69, sl b 70 = v70, sl b 71 = v71, sl b 72 = v72, sl b 73 = v73, sl b 74 = v74, sl b 75 = v75, sl b 76 = v76, sl b 77 = v77, sl b 78 = v78, sl b 79 = v79, sl b 80 = v80, sl b 81 = v81, sl b 82 = v82, sl b 83 = v83, sl b 84 = v84, sl b 85 = v85, sl b 86 = v86, sl b 87 = v87, sl b 88 = v88, sl b 89 = v89, sl b 90 = v90, sl b 91 = v91, sl b 92 = v92, sl b 93 = v93, sl b 94 = v94, sl b 95 = v95, sl b 96 = v96, sl b 97 = v97, sl b 98 = v98
    clear hB hold hsz hdf hF f1 f2 f3 f7
    obtain ⟨hgp, hbx⟩ := g7
    have hW3 := fin hR hW2
    have hraw3 : GP w3 ar nr cr lr := ⟨e1, by omega, hPr.later hW3⟩
    clear hR hraw hW2 hW1 hb1 hb2 kg kF r0 r1 q1 h0 hPr
    go_wp2
    go_loopw [8] (fun i wr => ∃ ii : Nat, ii ≤ 2 ∧ i = .int .i64 ii ∧ Below w3.heap.size w3 wr) (fun i _ => 2 - (intOf i).toNat)
    case atStart => exact ⟨0, by omega, rfl, Below.refl _ _⟩
    case round =>
      obtain ⟨ii, hii, rfl, hb4⟩ := hrel
      obtain ⟨W4, hW4e⟩ : ∃ W, W = wr := ⟨_, rfl⟩
      subst hW4e
      by_cases hlt : ii < 2
      · obtain ⟨gi, ai, ni, ci, li, hgc, hgl⟩ : ∃ gi ai ni ci li, (W4.cell? ⟨D5, ii * 2, none⟩ = some (.int .i64 gi) ∧ W4.cell? ⟨D5, ii * 2 + 1, none⟩ = some (.slice ai ni ci)) ∧ GP W4 ai ni ci li := by
          have hb := hbx.later hb4
          rcases (by omega : ii = 0 ∨ ii = 1) with rfl | rfl
          · exact ⟨_, _, _, _, _, ⟨hb.cell rfl, hb.cell rfl⟩, hraw3.later hb4⟩
          · exact ⟨_, _, _, _, _, ⟨hb.cell rfl, hb.cell rfl⟩, hgp.later hb4⟩
        have hi2 : (ii : Int) < 2 := by omega
        have hW4 := fin hb4 hW3
        have ksh := fun W (hb : Below W4.heap.size W4 W) => shards_any gi ai ci ni li W hgl.len (hgl.pods.later hb)
        have krs := fun W (hb : Below W4.heap.size W4 W) => rShards_any gi ai ci ni li W hgl.len (hgl.pods.later hb)
        obtain ⟨hz1, hz2⟩ := shardsB_spec li
        obtain ⟨zs, hzs⟩ : ∃ x, shardsB li = x := ⟨_, rfl⟩
        rw [hzs] at hz1 hz2 ksh
        obtain ⟨mz, hmz⟩ : ∃ x, zs.length = x := ⟨_, rfl⟩
        rw [hmz] at ksh
        obtain ⟨gc0, gc1⟩ := hgc
        go_wp2_with (first
          | (go_at_call 25; refine (ksh _ (Below.refl _ _)).mono ?_; rintro e w5 ⟨g, cz, rfl, hI5, hg5, hb5⟩
             have gd0 := cell_below hb5 gc0 (block_lt gc0)
             have gd1 := cell_below hb5 gc1 (block_lt gc1))
          | (go_at_call 27; refine (krs _ hb5).mono ?_; rintro e w6 ⟨v6, zs6, rfl, ho6, hp6, hm6, hl6, hb6⟩
             have hb56 := hb5.trans (hb6.mono hb5.size)
             obtain rfl : zs6 = zs := strict_ext _ _ hp6 hz1 (fun z => (hm6 z).trans (hz2 z).symm)
             have hzl : zs6.length ≤ 1000 := by have := hgl.few; omega
             have hk1 := (hI5.at hzl).later hb6
             obtain ⟨a6, c6, rfl, hk2⟩ : ∃ a6 c6, v6 = .slice a6 mz c6 ∧ IntsAt w6 a6 zs6 := by
               rw [hmz] at ho6
               rcases ho6.2 with ⟨rfl, h00⟩ | ⟨g6, c6, cur, rfl, _⟩
               · exact ⟨none, 0, by rw [h00], ⟨hzl, fun i z hz => by
                   have : zs6 = [] := List.length_eq_zero_iff.1 (by omega)
                   subst this
                   simp at hz⟩⟩
               · exact ⟨some ⟨g6, 0, none⟩, c6, rfl, ⟨hzl, fun i z hz => ⟨g6, 0, rfl, by rw [Nat.zero_add]; exact own_cell ho6 i (iv z) (by simp [hz])⟩⟩⟩)
          | (go_at_call 26; refine (rInts_same _ _ _ _ _ zs6 _ hmz hk1 hk2).mono ?_; rintro e w7 ⟨rfl, hb7⟩
             have hb57 := hb56.trans (hb7.mono hb56.size)))
        have hmem : ∀ p ∈ li, p.shard ∈ zs6 := fun p hp => (hz2 _).2 (by unfold shardsOf; exact List.mem_map_of_mem hp)
        have hIs : ∀ j z, zs6[j]? = some z → w7.cell? ⟨g, j, none⟩ = some (.int .i64 z) := fun j z hz => by
          have h1 := hI5 j z hz
          have h2 := cell_below hb6 h1 (block_lt h1)
          exact cell_below hb7 h2 (block_lt h2)
        have hli := hgl.len
        have hli14 := hgl.few
        clear hk1 hk2 ho6 hp6 hm6 hl6 hI5 ksh krs gd0 gd1
        go_loopw [10, 11] (fun q r wk => ∃ k : Nat, k ≤ mz ∧ r = .int .i64 k ∧ q = .int .i64 (tot li (zs6.take k)) ∧ Below w7.heap.size w7 wk) (fun _ r _ => mz - (intOf r).toNat)
        case atStart => exact ⟨0, by omega, rfl, by simp [tot], Below.refl _ _⟩
        case round =>
          obtain ⟨k, hk, rfl, rfl, hb8⟩ := hrel
          have hbr := hb57.trans (hb8.mono hb57.size)
          have hglr := hgl.later hbr
          have hgc : wr.cell? ⟨D5, ii * 2, none⟩ = some (.int .i64 gi) ∧ wr.cell? ⟨D5, ii * 2 + 1, none⟩ = some (.slice ai ni ci) := ⟨cell_below hbr gc0 (block_lt gc0), cell_below hbr gc1 (block_lt gc1)⟩
          by_cases hkn : k < mz
          · obtain ⟨z, hze⟩ : ∃ z, zs6[k]'(by omega) = z := ⟨_, rfl⟩
            have hzk : zs6[k]? = some z := by rw [← hze]; exact List.getElem?_eq_getElem (by omega)
            have hzc00 := hIs k z hzk
            have hzc0 := cell_below hb8 hzc00 (block_lt hzc00)
            have hkm : (k : Int) < mz := by omega
            have htn := tot_snoc li zs6 k (by omega)
            rw [hze] at htn
            have htl := tot_le li zs6 hz1 hmem (k + 1)
            have hpos : 0 < (inShard z li).length := by
              obtain ⟨p, hp, hps⟩ := List.mem_map.1 ((hz2 z).1 (List.mem_of_getElem? hzk))
              exact List.length_pos_of_mem (List.mem_filter.2 ⟨hp, by simpa using hps⟩)
            obtain ⟨tk, htk⟩ : ∃ x, tot li (zs6.take k) = x := ⟨_, rfl⟩
            rw [htk] at htn ⊢
            have HTN : Hid (tot li (zs6.take (k + 1)) = tk + (inShard z li).length) := htn
            clear htn
            have ks := fun W (hb : Below wr.heap.size wr W) => slice_sl gi z ai ci ni li W (hglr.later hb)
            go_upto_region 16 with fail
            refine wp_region_rely (fun w1 => Below wr.heap.size wr w1) (fun w1 w2 => Below w1.heap.size w1 w2) (sliB D5 ii ni ci g mz cz k gi z ai li) (by kernel_rfl) (by kernel_rfl) (Below.refl _ _).drew ?keep ?step ?rest
            case keep =>
              intro i v w1 w2 hS hF
              unfold sliB at *
              split at hF <;> try exact hF
              · obtain ⟨pa9, pn9, pc9, pl9, hv, h1⟩ := hF
                exact ⟨pa9, pn9, pc9, pl9, hv, h1.later hS⟩
              · obtain ⟨pa9, pn9, pc9, pl9, hv, h1⟩ := hF
                exact ⟨pa9, pn9, pc9, pl9, hv, h1.later hS⟩
            case step =>
              intro i o d ho hd b w1 hR hold hdep
              have o7 : sl b 7 = .slice (some ⟨D5, 0, none⟩) 2 2 := hold 7 (by kernel_rfl)
              have o8 : sl b 8 = .int .i64 ii := hold 8 (by kernel_rfl)
              have o9 : sl b 9 = .slice (some ⟨g, 0, none⟩) mz cz := hold 9 (by kernel_rfl)
              have o11 : sl b 11 = .int .i64 k := hold 11 (by kernel_rfl)
              have hb0 := Below.refl w1.heap.size w1
              obtain ⟨gc0, gc1⟩ := hgc
              have gc0 := cell_below hR gc0 (block_lt gc0)
              have gc1 := cell_below hR gc1 (block_lt gc1)
              have hzc := cell_below hR hzc0 (block_lt hzc0)
              rcases i with _ | _ | _ | _ | _ | _ | _ | _ | _ | _ | i
              all_goals try (cases ho; cases hd)
              · exact ok_val' rfl rfl (want_none rfl b) (by simp [go_sem, o7]) hR hb0 rfl
              · exact ok_val' rfl rfl (want_none rfl b) (by simp [go_sem, o8]) hR hb0 rfl
              · have f46 : sl b 46 = .slice (some ⟨D5, 0, none⟩) 2 2 := hdep 0 _ _ rfl rfl (by kernel_rfl)
                have f47 : sl b 47 = .int .i64 ii := hdep 1 _ _ rfl rfl (by kernel_rfl)
                exact ok_val' rfl rfl (want_none rfl b) (by simp [go_sem, f46, f47, hi2]) hR hb0 rfl
              · have f48 : sl b 48 = .pointer (some ⟨D5, ii * 2, none⟩) := hdep 2 _ _ rfl rfl (by kernel_rfl)
                exact ok_val' rfl rfl (want_none rfl b) (by simp [go_sem, f48, gc0, gc1]) hR hb0 rfl
              · exact ok_val' rfl rfl (want_none rfl b) (by simp [go_sem, o9]) hR hb0 rfl
              · exact ok_val' rfl rfl (want_none rfl b) (by simp [go_sem, o11]) hR hb0 rfl
              · have f50 : sl b 50 = .slice (some ⟨g, 0, none⟩) mz cz := hdep 4 _ _ rfl rfl (by kernel_rfl)
                have f51 : sl b 51 = .int .i64 k := hdep 5 _ _ rfl rfl (by kernel_rfl)
                exact ok_val' rfl rfl (want_none rfl b) (by simp [go_sem, f50, f51, hkm]) hR hb0 rfl
              · have f52 : sl b 52 = .pointer (some ⟨g, k, none⟩) := hdep 6 _ _ rfl rfl (by kernel_rfl)
                exact ok_val' rfl rfl (want_none rfl b) (by simp [go_sem, f52, hzc]) hR hb0 rfl
              · have f49 : sl b 49 = .agg #[.int .i64 gi, .slice ai ni ci] := hdep 3 _ _ rfl rfl (by kernel_rfl)
                have f53 : sl b 53 = .int .i64 z := hdep 7 _ _ rfl rfl (by kernel_rfl)
                refine ok_enter' rfl rfl (want_none rfl b) ?_ ((ks w1 hR).mono ?_)
                · simp [go_sem, f49, f53, cfSlice]
                rintro e w2 ⟨pa9, pn9, pc9, pl9, rfl, h1, hb2⟩
                exact ⟨_, rfl, hR.trans (hb2.mono hR.size), hb2, pa9, pn9, pc9, pl9, rfl, h1⟩
              · obtain ⟨pa98, pn98, pc98, pl98, f54, g54⟩ : ∃ pa9 pn9 pc9 pl9, sl b 54 = .slice pa9 pn9 pc9 ∧ SL9 w1 pa9 pn9 pl9 li z := hdep 8 _ _ rfl rfl (by kernel_rfl)
                exact ok_val' rfl rfl (want_none rfl b) (by simp [go_sem, f54] <;> rfl) hR hb0 ⟨pa98, pn98, pc98, pl98, rfl, g54⟩
              · cases ho
            case rest =>
              intro b V6 hR hsz hdf hold hF
              have f7 : sl b 7 = .slice (some ⟨D5, 0, none⟩) 2 2 := hold 7 (by kernel_rfl)
              have f8 : sl b 8 = .int .i64 ii := hold 8 (by kernel_rfl)
              have f9 : sl b 9 = .slice (some ⟨g, 0, none⟩) mz cz := hold 9 (by kernel_rfl)
              have f11 : sl b 11 = .int .i64 k := hold 11 (by kernel_rfl)
              obtain ⟨pa, pn, pc, pl, f12, g12⟩ : ∃ pa9 pn9 pc9 pl9, sl b 12 = .slice pa9 pn9 pc9 ∧ SL9 V6 pa9 pn9 pl9 li z := hF 9 _ _ rfl rfl
              have f0 := hold 0 (by kernel_rfl)
              have f1 := hold 1 (by kernel_rfl)
              have f2 := hold 2 (by kernel_rfl)
              have f3 := hold 3 (by kernel_rfl)
              have f4 := hold 4 (by kernel_rfl)
              have f5 := hold 5 (by kernel_rfl)
              have f6 := hold 6 (by kernel_rfl)
              have f10 := hold 10 (by kernel_rfl)
              have f13 := hold 13 (by kernel_rfl)
              have f14 := hold 14 (by kernel_rfl)
              have f15 := hold 15 (by kernel_rfl)
              have f16 := hold 16 (by kernel_rfl)
              have f17 := hold 17 (by kernel_rfl)
              have f18 := hold 18 (by kernel_rfl)
              have f19 := hold 19 (by kernel_rfl)
              have f20 := hold 20 (by kernel_rfl)
              have f21 := hold 21 (by kernel_rfl)
              have f22 := hold 22 (by kernel_rfl)
              have f23 := hold 23 (by kernel_rfl)
              have f24 := hold 24 (by kernel_rfl)
              have f25 := hold 25 (by kernel_rfl)
              have f26 := hold 26 (by kernel_rfl)
              have f27 := hold 27 (by kernel_rfl)
              have f28 := hold 28 (by kernel_rfl)
              have f29 := hold 29 (by kernel_rfl)
              have f30 := hold 30 (by kernel_rfl)
              have f31 := hold 31 (by kernel_rfl)
              have f32 := hold 32 (by kernel_rfl)
              have f33 := hold 33 (by kernel_rfl)
              have f34 := hold 34 (by kernel_rfl)
              have f35 := hold 35 (by kernel_rfl)
              have f36 := hold 36 (by kernel_rfl)
              have f37 := hold 37 (by kernel_rfl)
              have f38 := hold 38 (by kernel_rfl)
              have f39 := hold 39 (by kernel_rfl)
              have f40 := hold 40 (by kernel_rfl)
              have f41 := hold 41 (by kernel_rfl)
              have f42 := hold 42 (by kernel_rfl)
              have f43 := hold 43 (by kernel_rfl)
              have f44 := hold 44 (by kernel_rfl)
              have f45 := hold 45 (by kernel_rfl)
              have f55 := hold 55 (by kernel_rfl)
              have f56 := hold 56 (by kernel_rfl)
              have f57 := hold 57 (by kernel_rfl)
              have f58 := hold 58 (by kernel_rfl)
              have f59 := hold 59 (by kernel_rfl)
              have f60 := hold 60 (by kernel_rfl)
              have f61 := hold 61 (by kernel_rfl)
              have f62 := hold 62 (by kernel_rfl)
              have f63 := hold 63 (by kernel_rfl)
              have f64 := hold 64 (by kernel_rfl)
              have f65 := hold 65 (by kernel_rfl)
              have f66 := hold 66 (by kernel_rfl)
              have f67 := hold 67 (by kernel_rfl)
              have f68 := hold 68 (by kernel_rfl)
              have f69 := hold 69 (by kernel_rfl)
              have f70 := hold 70 (by kernel_rfl)
              have f71 := hold 71 (by kernel_rfl)
              have f72 := hold 72 (by kernel_rfl)
              have f73 := hold 73 (by kernel_rfl)
              have f74 := hold 74 (by kernel_rfl)
              have f75 := hold 75 (by kernel_rfl)
              have f76 := hold 76 (by kernel_rfl)
              have f77 := hold 77 (by kernel_rfl)
              have f78 := hold 78 (by kernel_rfl)
              have f79 := hold 79 (by kernel_rfl)
              have f80 := hold 80 (by kernel_rfl)
              have f81 := hold 81 (by kernel_rfl)
              have f82 := hold 82 (by kernel_rfl)
              have f83 := hold 83 (by kernel_rfl)
              have f84 := hold 84 (by kernel_rfl)
              have f85 := hold 85 (by kernel_rfl)
              have f86 := hold 86 (by kernel_rfl)
              have f87 := hold 87 (by kernel_rfl)
              have f88 := hold 88 (by kernel_rfl)
              have f89 := hold 89 (by kernel_rfl)
              have f90 := hold 90 (by kernel_rfl)
              have f91 := hold 91 (by kernel_rfl)
              have f92 := hold 92 (by kernel_rfl)
              have f93 := hold 93 (by kernel_rfl)
              have f94 := hold 94 (by kernel_rfl)
              have f95 := hold 95 (by kernel_rfl)
              have f96 := hold 96 (by kernel_rfl)
              have f97 := hold 97 (by kernel_rfl)
              have f98 := hold 98 (by kernel_rfl)
              have hB : b = _ := act_list b (show b.tmps.size = 99 from hsz) hdf
              rw [hB]
              simp only [List.range, List.range.loop, List.map_cons, List.map_nil, f0, f1, f2, f3, f4, f5, f6, f7, f8, f9, f10, f11, f12, f13, f14, f15, f16, f17, f18, f19, f20, f21, f22, f23, f24, f25, f26, f27, f28, f29, f30, f31, f32, f33, f34, f35, f36, f37, f38, f39, f40, f41, f42, f43, f44, f45, f55, f56, f57, f58, f59, f60, f61, f62, f63, f64, f65, f66, f67, f68, f69, f70, f71, f72, f73, f74, f75, f76, f77, f78, f79, f80, f81, f82, f83, f84, f85, f86, f87, f88, f89, f90, f91, f92, f93, f94, f95, f96, f97, f98]
              generalize sl b 46 = v46, sl b 47 = v47, sl b 48 = v48, sl b 49 = v49, sl b 50 = v50, sl b 51 = v51, sl b 52 = v52, sl b 53 = v53, sl b 54 = v54
              simp only [sl, List.getElem?_toArray, List.getElem?_cons_succ, List.getElem?_cons_zero, Option.getD_some]
              clear hB hold hsz hdf hF f0 f1 f2 f3 f4 f5 f6 f7 f8 f9 f10 f11 f12 f13 f14 f15 f16 f17 f18 f19 f20 f21 f22 f23 f24 f25 f26 f27 f28 f29 f30 f31 f32 f33 f34 f35 f36 f37 f38 f39 f40 f41 f42 f43 f44 f45 f55 f56 f57 f58 f59 f60 f61 f62 f63 f64 f65 f66 f67 f68 f69 f70 f71 f72 f73 f74 f75 f76 f77 f78 f79 f80 f81 f82 f83 f84 f85 f86 f87 f88 f89 f90 f91 f92 f93 f94 f95 f96 f97 f98
              have hpnc := g12.count
              have hpn0 : ((pn : Int) == 0) = false := by simp; omega
              have hgc6 : V6.cell? ⟨D5, ii * 2, none⟩ = some (.int .i64 gi) ∧ V6.cell? ⟨D5, ii * 2 + 1, none⟩ = some (.slice ai ni ci) := ⟨cell_below hR hgc.1 (block_lt hgc.1), cell_below hR hgc.2 (block_lt hgc.2)⟩
              have hzc6 := cell_below hR hzc0 (block_lt hzc0)
              have hgl6 := hglr.later hR
              have htb : tk + pn ≤ 14 := by rw [HTN.out] at htl; omega
              have hR6 := hR
              have kr : ∀ W, Below V6.heap.size V6 W → Calls Try.prog 30 #[.agg #[.int .i64 gi, .slice ai ni ci], .int .i64 z] W fun e w' => ∃ ra rc rl, e = .returned (.slice ra pn rc) ∧ SL9 w' ra pn rl li z ∧ Below W.heap.size W w' := fun W hb => by
                refine (rSlice_sl gi z ai ci ni li W (hgl6.later hb)).mono ?_
                rintro e w' ⟨ra, rn, rc, rl, rfl, h1, h2⟩
                obtain rfl : rn = pn := by rw [← h1.count, hpnc]
                exact ⟨ra, rc, rl, rfl, h1, h2⟩
              have kp := fun ra rc rl W (hb : Below V6.heap.size V6 W) (h : SL9 W ra pn rl li z) => rPods_same pa ra pn pc rc pl rl W g12.len (g12.data.trans h.data.symm) (g12.pods.later hb) h.pods
              clear hR hgc hzc0 hzc00 ks
              go_upto_region 17 with fail
              refine wp_region_rely (fun w1 => Below V6.heap.size V6 w1) (fun w1 w2 => Below w1.heap.size w1 w2) (sliC D5 ii ni ci g mz cz k pn pc gi z ai pa li) (by kernel_rfl) (by kernel_rfl) (Below.refl _ _).drew ?keep ?step ?rest
              case keep =>
                intro i v w1 w2 hS hF
                unfold sliC at *
                split at hF <;> try exact hF
                · obtain ⟨ra, rc, rl, hv, h1⟩ := hF
                  exact ⟨ra, rc, rl, hv, h1.later hS⟩
              case step =>
                intro i o d ho hd b w1 hR hold hdep
                have o7 : sl b 7 = .slice (some ⟨D5, 0, none⟩) 2 2 := hold 7 (by kernel_rfl)
                have o8 : sl b 8 = .int .i64 ii := hold 8 (by kernel_rfl)
                have o9 : sl b 9 = .slice (some ⟨g, 0, none⟩) mz cz := hold 9 (by kernel_rfl)
                have o11 : sl b 11 = .int .i64 k := hold 11 (by kernel_rfl)
                have o12 : sl b 12 = .slice pa pn pc := hold 12 (by kernel_rfl)
                have hb0 := Below.refl w1.heap.size w1
                obtain ⟨gc0, gc1⟩ := hgc6
                have gc0 := cell_below hR gc0 (block_lt gc0)
                have gc1 := cell_below hR gc1 (block_lt gc1)
                have hzc := cell_below hR hzc6 (block_lt hzc6)
                rcases i with _ | _ | _ | _ | _ | _ | _ | _ | _ | _ | _ | _ | _ | _ | _ | _ | _ | i
                all_goals try (cases ho; cases hd)
                · exact ok_val' rfl rfl (want_none rfl b) (by simp [go_sem, o12]) hR hb0 rfl
                · exact ok_val' rfl rfl (want_none rfl b) (by simp [go_sem, o7]) hR hb0 rfl
                · exact ok_val' rfl rfl (want_none rfl b) (by simp [go_sem, o8]) hR hb0 rfl
                · have f56 : sl b 56 = .slice (some ⟨D5, 0, none⟩) 2 2 := hdep 1 _ _ rfl rfl (by kernel_rfl)
                  have f57 : sl b 57 = .int .i64 ii := hdep 2 _ _ rfl rfl (by kernel_rfl)
                  exact ok_val' rfl rfl (want_none rfl b) (by simp [go_sem, f56, f57, hi2]) hR hb0 rfl
                · have f58 : sl b 58 = .pointer (some ⟨D5, ii * 2, none⟩) := hdep 3 _ _ rfl rfl (by kernel_rfl)
                  exact ok_val' rfl rfl (want_none rfl b) (by simp [go_sem, f58, gc0, gc1]) hR hb0 rfl
                · exact ok_val' rfl rfl (want_none rfl b) (by simp [go_sem, o9]) hR hb0 rfl
                · exact ok_val' rfl rfl (want_none rfl b) (by simp [go_sem, o11]) hR hb0 rfl
                · have f60 : sl b 60 = .slice (some ⟨g, 0, none⟩) mz cz := hdep 5 _ _ rfl rfl (by kernel_rfl)
                  have f61 : sl b 61 = .int .i64 k := hdep 6 _ _ rfl rfl (by kernel_rfl)
                  exact ok_val' rfl rfl (want_none rfl b) (by simp [go_sem, f60, f61, hkm]) hR hb0 rfl
                · have f62 : sl b 62 = .pointer (some ⟨g, k, none⟩) := hdep 7 _ _ rfl rfl (by kernel_rfl)
                  exact ok_val' rfl rfl (want_none rfl b) (by simp [go_sem, f62, hzc]) hR hb0 rfl
                · have f59 : sl b 59 = .agg #[.int .i64 gi, .slice ai ni ci] := hdep 4 _ _ rfl rfl (by kernel_rfl)
                  have f63 : sl b 63 = .int .i64 z := hdep 8 _ _ rfl rfl (by kernel_rfl)
                  refine ok_enter' rfl rfl (want_none rfl b) ?_ ((kr w1 hR).mono ?_)
                  · simp [go_sem, f59, f63, cfrSlice]
                  rintro e w2 ⟨ra, rc, rl, rfl, h1, hb2⟩
                  exact ⟨_, rfl, hR.trans (hb2.mono hR.size), hb2, ra, rc, rl, rfl, h1⟩
                · have f55 : sl b 55 = .slice pa pn pc := hdep 0 _ _ rfl rfl (by kernel_rfl)
                  obtain ⟨ra9, rc9, rl9, f64, g64⟩ : ∃ ra rc rl, sl b 64 = .slice ra pn rc ∧ SL9 w1 ra pn rl li z := hdep 9 _ _ rfl rfl (by kernel_rfl)
                  refine ok_enter' rfl rfl (want_none rfl b) ?_ ((kp ra9 rc9 rl9 w1 hR g64).mono ?_)
                  · simp [go_sem, f55, f64, cfrPods]
                  rintro e w2 ⟨rfl, hb2⟩
                  exact ⟨_, rfl, hR.trans (hb2.mono hR.size), hb2, rfl⟩
                · have f65 : sl b 65 = .bool true := hdep 10 _ _ rfl rfl (by kernel_rfl)
                  exact ok_val' rfl rfl (want_none rfl b) (by simp [go_sem, f65]) hR hb0 rfl
                · have f66 : sl b 66 = .bool false := hdep 11 _ _ rfl rfl (by kernel_rfl)
                  exact ok_val' rfl rfl (want_none rfl b) (by simp [go_sem, f66]) hR hb0 rfl
                · have f67 : sl b 67 = .bool false := hdep 12 _ _ rfl rfl (by kernel_rfl)
                  exact ok_val' rfl rfl (want 12 67 rfl rfl f67) (by simp [go_sem, o12]) hR hb0 rfl
                · have f68 : sl b 68 = .slice pa pn pc := hdep 13 _ _ rfl rfl (by kernel_rfl)
                  have f67 : sl b 67 = .bool false := hdep 12 _ _ rfl rfl (by kernel_rfl)
                  exact ok_val' rfl rfl (want 12 67 rfl rfl f67) (by simp [go_sem, f68]) hR hb0 rfl
                · have f69 : sl b 69 = .int .i64 pn := hdep 14 _ _ rfl rfl (by kernel_rfl)
                  have f67 : sl b 67 = .bool false := hdep 12 _ _ rfl rfl (by kernel_rfl)
                  exact ok_val' rfl rfl (want 12 67 rfl rfl f67) (by simp [go_sem, f69, hpn0]) hR hb0 rfl
                · have f67 : sl b 67 = .bool false := hdep 12 _ _ rfl rfl (by kernel_rfl)
                  have f70 : sl b 70 = .bool false := hdep 15 _ _ rfl rfl (by kernel_rfl)
                  exact ok_val' rfl rfl (want_none rfl b) (by simp [go_sem, f67, f70]) hR hb0 rfl
                · cases ho
              case rest =>
                intro b V7 hR hsz hdf hold hF
                have f7 : sl b 7 = .slice (some ⟨D5, 0, none⟩) 2 2 := hold 7 (by kernel_rfl)
                have f8 : sl b 8 = .int .i64 ii := hold 8 (by kernel_rfl)
                have f9 : sl b 9 = .slice (some ⟨g, 0, none⟩) mz cz := hold 9 (by kernel_rfl)
                have f11 : sl b 11 = .int .i64 k := hold 11 (by kernel_rfl)
                have f12 : sl b 12 = .slice pa pn pc := hold 12 (by kernel_rfl)
                have f71 : sl b 71 = .bool false := hF 16 _ _ rfl rfl
                have f0 := hold 0 (by kernel_rfl)
                have f1 := hold 1 (by kernel_rfl)
                have f2 := hold 2 (by kernel_rfl)
                have f3 := hold 3 (by kernel_rfl)
                have f4 := hold 4 (by kernel_rfl)
                have f5 := hold 5 (by kernel_rfl)
                have f6 := hold 6 (by kernel_rfl)
                have f10 := hold 10 (by kernel_rfl)
                have f13 := hold 13 (by kernel_rfl)
                have f14 := hold 14 (by kernel_rfl)
                have f15 := hold 15 (by kernel_rfl)
                have f16 := hold 16 (by kernel_rfl)
                have f17 := hold 17 (by kernel_rfl)
                have f18 := hold 18 (by kernel_rfl)
                have f19 := hold 19 (by kernel_rfl)
                have f20 := hold 20 (by kernel_rfl)
                have f21 := hold 21 (by kernel_rfl)
                have f22 := hold 22 (by kernel_rfl)
                have f23 := hold 23 (by kernel_rfl)
                have f24 := hold 24 (by kernel_rfl)
                have f25 := hold 25 (by kernel_rfl)
                have f26 := hold 26 (by kernel_rfl)
                have f27 := hold 27 (by kernel_rfl)
                have f28 := hold 28 (by kernel_rfl)
                have f29 := hold 29 (by kernel_rfl)
                have f30 := hold 30 (by kernel_rfl)
                have f31 := hold 31 (by kernel_rfl)
                have f32 := hold 32 (by kernel_rfl)
                have f33 := hold 33 (by kernel_rfl)
                have f34 := hold 34 (by kernel_rfl)
                have f35 := hold 35 (by kernel_rfl)
                have f36 := hold 36 (by kernel_rfl)
                have f37 := hold 37 (by kernel_rfl)
                have f38 := hold 38 (by kernel_rfl)
                have f39 := hold 39 (by kernel_rfl)
                have f40 := hold 40 (by kernel_rfl)
                have f41 := hold 41 (by kernel_rfl)
                have f42 := hold 42 (by kernel_rfl)
                have f43 := hold 43 (by kernel_rfl)
                have f44 := hold 44 (by kernel_rfl)
                have f45 := hold 45 (by kernel_rfl)
                have f46 := hold 46 (by kernel_rfl)
                have f47 := hold 47 (by kernel_rfl)
                have f48 := hold 48 (by kernel_rfl)
                have f49 := hold 49 (by kernel_rfl)
                have f50 := hold 50 (by kernel_rfl)
                have f51 := hold 51 (by kernel_rfl)
                have f52 := hold 52 (by kernel_rfl)
                have f53 := hold 53 (by kernel_rfl)
                have f54 := hold 54 (by kernel_rfl)
                have f72 := hold 72 (by kernel_rfl)
                have f73 := hold 73 (by kernel_rfl)
                have f74 := hold 74 (by kernel_rfl)
                have f75 := hold 75 (by kernel_rfl)
                have f76 := hold 76 (by kernel_rfl)
                have f77 := hold 77 (by kernel_rfl)
                have f78 := hold 78 (by kernel_rfl)
                have f79 := hold 79 (by kernel_rfl)
                have f80 := hold 80 (by kernel_rfl)
                have f81 := hold 81 (by kernel_rfl)
                have f82 := hold 82 (by kernel_rfl)
                have f83 := hold 83 (by kernel_rfl)
                have f84 := hold 84 (by kernel_rfl)
                have f85 := hold 85 (by kernel_rfl)
                have f86 := hold 86 (by kernel_rfl)
                have f87 := hold 87 (by kernel_rfl)
                have f88 := hold 88 (by kernel_rfl)
                have f89 := hold 89 (by kernel_rfl)
                have f90 := hold 90 (by kernel_rfl)
                have f91 := hold 91 (by kernel_rfl)
                have f92 := hold 92 (by kernel_rfl)
                have f93 := hold 93 (by kernel_rfl)
                have f94 := hold 94 (by kernel_rfl)
                have f95 := hold 95 (by kernel_rfl)
                have f96 := hold 96 (by kernel_rfl)
                have f97 := hold 97 (by kernel_rfl)
                have f98 := hold 98 (by kernel_rfl)
                have hB : b = _ := act_list b (show b.tmps.size = 99 from hsz) hdf
                rw [hB]
                simp only [List.range, List.range.loop, List.map_cons, List.map_nil, f0, f1, f2, f3, f4, f5, f6, f7, f8, f9, f10, f11, f12, f13, f14, f15, f16, f17, f18, f19, f20, f21, f22, f23, f24, f25, f26, f27, f28, f29, f30, f31, f32, f33, f34, f35, f36, f37, f38, f39, f40, f41, f42, f43, f44, f45, f46, f47, f48, f49, f50, f51, f52, f53, f54, f71, f72, f73, f74, f75, f76, f77, f78, f79, f80, f81, f82, f83, f84, f85, f86, f87, f88, f89, f90, f91, f92, f93, f94, f95, f96, f97, f98]
                generalize sl b 55 = v55, sl b 56 = v56, sl b 57 = v57, sl b 58 = v58, sl b 59 = v59, sl b 60 = v60, sl b 61 = v61, sl b 62 = v62, sl b 63 = v63, sl b 64 = v64, sl b 65 = v65, sl b 66 = v66, sl b 67 = v67, sl b 68 = v68, sl b 69 = v69, sl b 70 = v70
                simp only [sl, List.getElem?_toArray, List.getElem?_cons_succ, List.getElem?_cons_zero, Option.getD_some]
                clear hB hold hsz hdf hF f0 f1 f2 f3 f4 f5 f6 f7 f8 f9 f10 f11 f12 f13 f14 f15 f16 f17 f18 f19 f20 f21 f22 f23 f24 f25 f26 f27 f28 f29 f30 f31 f32 f33 f34 f35 f36 f37 f38 f39 f40 f41 f42 f43 f44 f45 f46 f47 f48 f49 f50 f51 f52 f53 f54 f71 f72 f73 f74 f75 f76 f77 f78 f79 f80 f81 f82 f83 f84 f85 f86 f87 f88 f89 f90 f91 f92 f93 f94 f95 f96 f97 f98
                have hb9 := (hb8.trans (hR6.mono hb8.size)).trans (hR.mono (Nat.le_trans hb8.size hR6.size))
                clear hR hR6 kr kp hgc6 hzc6 hgl6
                go_wp2
                go_roundw
                case rel => exact ⟨k + 1, by omega, by go_num, by rw [HTN.out, hpnc]; go_num, hb9⟩
                case measure => simp [intOf]; omega
          · have hkm : ¬ (k : Int) < mz := by omega
            have htot : tot li (zs6.take k) = ni := by rw [List.take_of_length_le (by omega), tot_all zs6 hz1 li hmem, hli]
            rw [htot]
            obtain ⟨N77, hN77⟩ : ∃ x, (inShard 77 li).length = x := ⟨_, rfl⟩
            have k7 : ∀ W, Below wr.heap.size wr W → Calls Try.prog 28 #[.agg #[.int .i64 gi, .slice ai ni ci], .int .i64 77] W fun e w' => ∃ ra rc, e = .returned (.slice ra N77 rc) ∧ Below W.heap.size W w' := fun W hb => by
              refine (slice_sl gi 77 ai ci ni li W (hglr.later hb)).mono ?_
              rintro e w' ⟨ra, rn, rc, rl, rfl, h1, h2⟩
              obtain rfl : rn = N77 := by rw [← h1.count, hN77]
              exact ⟨ra, rc, rfl, h2⟩
            have r7 : ∀ W, Below wr.heap.size wr W → Calls Try.prog 30 #[.agg #[.int .i64 gi, .slice ai ni ci], .int .i64 77] W fun e w' => ∃ ra rc, e = .returned (.slice ra N77 rc) ∧ Below W.heap.size W w' := fun W hb => by
              refine (rSlice_sl gi 77 ai ci ni li W (hglr.later hb)).mono ?_
              rintro e w' ⟨ra, rn, rc, rl, rfl, h1, h2⟩
              obtain rfl : rn = N77 := by rw [← h1.count, hN77]
              exact ⟨ra, rc, rfl, h2⟩
            clear htot hN77
            go_upto_region 20 with fail
            refine wp_region_rely (fun w1 => Below wr.heap.size wr w1) (fun w1 w2 => Below w1.heap.size w1 w2) (sliD D5 ii ni ci N77 gi ai) (by kernel_rfl) (by kernel_rfl) (Below.refl _ _).drew ?keep ?step ?rest
            case keep =>
              intro i v w1 w2 hS hF
              unfold sliD at *
              split at hF <;> try exact hF
            case step =>
              intro i o d ho hd b w1 hR hold hdep
              have o7 : sl b 7 = .slice (some ⟨D5, 0, none⟩) 2 2 := hold 7 (by kernel_rfl)
              have o8 : sl b 8 = .int .i64 ii := hold 8 (by kernel_rfl)
              have o10 : sl b 10 = .int .i64 ni := hold 10 (by kernel_rfl)
              have hb0 := Below.refl w1.heap.size w1
              obtain ⟨gc0, gc1⟩ := hgc
              have gc0 := cell_below hR gc0 (block_lt gc0)
              have gc1 := cell_below hR gc1 (block_lt gc1)
              rcases i with _ | _ | _ | _ | _ | _ | _ | _ | _ | _ | _ | _ | _ | _ | _ | _ | _ | _ | _ | _ | _ | _ | _ | i
              all_goals try (cases ho; cases hd)
              · exact ok_val' rfl rfl (want_none rfl b) (by simp [go_sem, o10]) hR hb0 rfl
              · exact ok_val' rfl rfl (want_none rfl b) (by simp [go_sem, o7]) hR hb0 rfl
              · exact ok_val' rfl rfl (want_none rfl b) (by simp [go_sem, o8]) hR hb0 rfl
              · have f77 : sl b 77 = .slice (some ⟨D5, 0, none⟩) 2 2 := hdep 1 _ _ rfl rfl (by kernel_rfl)
                have f78 : sl b 78 = .int .i64 ii := hdep 2 _ _ rfl rfl (by kernel_rfl)
                exact ok_val' rfl rfl (want_none rfl b) (by simp [go_sem, f77, f78, hi2]) hR hb0 rfl
              · have f79 : sl b 79 = .pointer (some ⟨D5, ii * 2, none⟩) := hdep 3 _ _ rfl rfl (by kernel_rfl)
                exact ok_val' rfl rfl (want_none rfl b) (by simp [go_sem, f79]) hR hb0 rfl
              · have f80 : sl b 80 = .pointer (some ⟨D5, ii * 2 + 1, none⟩) := hdep 4 _ _ rfl rfl (by kernel_rfl)
                exact ok_val' rfl rfl (want_none rfl b) (by simp [go_sem, f80, gc1]) hR hb0 rfl
              · have f81 : sl b 81 = .slice ai ni ci := hdep 5 _ _ rfl rfl (by kernel_rfl)
                exact ok_val' rfl rfl (want_none rfl b) (by simp [go_sem, f81]) hR hb0 rfl
              · have f76 : sl b 76 = .int .i64 ni := hdep 0 _ _ rfl rfl (by kernel_rfl)
                have f82 : sl b 82 = .int .i64 ni := hdep 6 _ _ rfl rfl (by kernel_rfl)
                exact ok_val' rfl rfl (want_none rfl b) (by simp [go_sem, f76, f82]) hR hb0 rfl
              · have f83 : sl b 83 = .bool false := hdep 7 _ _ rfl rfl (by kernel_rfl)
                exact ok_val' rfl rfl (want_none rfl b) (by simp [go_sem, f83]) hR hb0 rfl
              · have f84 : sl b 84 = .bool false := hdep 8 _ _ rfl rfl (by kernel_rfl)
                exact ok_val' rfl rfl (want 8 84 rfl rfl f84) (by simp [go_sem, o7]) hR hb0 rfl
              · have f84 : sl b 84 = .bool false := hdep 8 _ _ rfl rfl (by kernel_rfl)
                exact ok_val' rfl rfl (want 8 84 rfl rfl f84) (by simp [go_sem, o8]) hR hb0 rfl
              · have f85 : sl b 85 = .slice (some ⟨D5, 0, none⟩) 2 2 := hdep 9 _ _ rfl rfl (by kernel_rfl)
                have f86 : sl b 86 = .int .i64 ii := hdep 10 _ _ rfl rfl (by kernel_rfl)
                have f84 : sl b 84 = .bool false := hdep 8 _ _ rfl rfl (by kernel_rfl)
                exact ok_val' rfl rfl (want 8 84 rfl rfl f84) (by simp [go_sem, f85, f86, hi2]) hR hb0 rfl
              · have f87 : sl b 87 = .pointer (some ⟨D5, ii * 2, none⟩) := hdep 11 _ _ rfl rfl (by kernel_rfl)
                have f84 : sl b 84 = .bool false := hdep 8 _ _ rfl rfl (by kernel_rfl)
                exact ok_val' rfl rfl (want 8 84 rfl rfl f84) (by simp [go_sem, f87, gc0, gc1]) hR hb0 rfl
              · have f88 : sl b 88 = .agg #[.int .i64 gi, .slice ai ni ci] := hdep 12 _ _ rfl rfl (by kernel_rfl)
                have f84 : sl b 84 = .bool false := hdep 8 _ _ rfl rfl (by kernel_rfl)
                refine ok_enter' rfl rfl (want 8 84 rfl rfl f84) ?_ ((k7 w1 hR).mono ?_)
                · simp [go_sem, f88, cfSlice]
                rintro e w2 ⟨ra, rc, rfl, hb2⟩
                exact ⟨_, rfl, hR.trans (hb2.mono hR.size), hb2, ra, rc, rfl, trivial⟩
              · obtain ⟨ra13, rc13, f89, g89⟩ : ∃ ra rc, sl b 89 = .slice ra N77 rc ∧ True := hdep 13 _ _ rfl rfl (by kernel_rfl)
                have f84 : sl b 84 = .bool false := hdep 8 _ _ rfl rfl (by kernel_rfl)
                exact ok_val' rfl rfl (want 8 84 rfl rfl f84) (by simp [go_sem, f89]) hR hb0 rfl
              · have f84 : sl b 84 = .bool false := hdep 8 _ _ rfl rfl (by kernel_rfl)
                exact ok_val' rfl rfl (want 8 84 rfl rfl f84) (by simp [go_sem, o7]) hR hb0 rfl
              · have f84 : sl b 84 = .bool false := hdep 8 _ _ rfl rfl (by kernel_rfl)
                exact ok_val' rfl rfl (want 8 84 rfl rfl f84) (by simp [go_sem, o8]) hR hb0 rfl
              · have f91 : sl b 91 = .slice (some ⟨D5, 0, none⟩) 2 2 := hdep 15 _ _ rfl rfl (by kernel_rfl)
                have f92 : sl b 92 = .int .i64 ii := hdep 16 _ _ rfl rfl (by kernel_rfl)
                have f84 : sl b 84 = .bool false := hdep 8 _ _ rfl rfl (by kernel_rfl)
                exact ok_val' rfl rfl (want 8 84 rfl rfl f84) (by simp [go_sem, f91, f92, hi2]) hR hb0 rfl
              · have f93 : sl b 93 = .pointer (some ⟨D5, ii * 2, none⟩) := hdep 17 _ _ rfl rfl (by kernel_rfl)
                have f84 : sl b 84 = .bool false := hdep 8 _ _ rfl rfl (by kernel_rfl)
                exact ok_val' rfl rfl (want 8 84 rfl rfl f84) (by simp [go_sem, f93, gc0, gc1]) hR hb0 rfl
              · have f94 : sl b 94 = .agg #[.int .i64 gi, .slice ai ni ci] := hdep 18 _ _ rfl rfl (by kernel_rfl)
                have f84 : sl b 84 = .bool false := hdep 8 _ _ rfl rfl (by kernel_rfl)
                refine ok_enter' rfl rfl (want 8 84 rfl rfl f84) ?_ ((r7 w1 hR).mono ?_)
                · simp [go_sem, f94, cfrSlice]
                rintro e w2 ⟨ra, rc, rfl, hb2⟩
                exact ⟨_, rfl, hR.trans (hb2.mono hR.size), hb2, ra, rc, rfl, trivial⟩
              · obtain ⟨ra19, rc19, f95, g95⟩ : ∃ ra rc, sl b 95 = .slice ra N77 rc ∧ True := hdep 19 _ _ rfl rfl (by kernel_rfl)
                have f84 : sl b 84 = .bool false := hdep 8 _ _ rfl rfl (by kernel_rfl)
                exact ok_val' rfl rfl (want 8 84 rfl rfl f84) (by simp [go_sem, f95]) hR hb0 rfl
              · have f90 : sl b 90 = .int .i64 N77 := hdep 14 _ _ rfl rfl (by kernel_rfl)
                have f96 : sl b 96 = .int .i64 N77 := hdep 20 _ _ rfl rfl (by kernel_rfl)
                have f84 : sl b 84 = .bool false := hdep 8 _ _ rfl rfl (by kernel_rfl)
                exact ok_val' rfl rfl (want 8 84 rfl rfl f84) (by simp [go_sem, f90, f96]) hR hb0 rfl
              · have f84 : sl b 84 = .bool false := hdep 8 _ _ rfl rfl (by kernel_rfl)
                have f97 : sl b 97 = .bool false := hdep 21 _ _ rfl rfl (by kernel_rfl)
                exact ok_val' rfl rfl (want_none rfl b) (by simp [go_sem, f84, f97]) hR hb0 rfl
              · cases ho
            case rest =>
              intro b V8 hR hsz hdf hold hF
              have f7 : sl b 7 = .slice (some ⟨D5, 0, none⟩) 2 2 := hold 7 (by kernel_rfl)
              have f8 : sl b 8 = .int .i64 ii := hold 8 (by kernel_rfl)
              have f10 : sl b 10 = .int .i64 ni := hold 10 (by kernel_rfl)
              have f98 : sl b 98 = .bool false := hF 22 _ _ rfl rfl
              have f0 := hold 0 (by kernel_rfl)
              have f1 := hold 1 (by kernel_rfl)
              have f2 := hold 2 (by kernel_rfl)
              have f3 := hold 3 (by kernel_rfl)
              have f4 := hold 4 (by kernel_rfl)
              have f5 := hold 5 (by kernel_rfl)
              have f6 := hold 6 (by kernel_rfl)
              have f9 := hold 9 (by kernel_rfl)
              have f11 := hold 11 (by kernel_rfl)
              have f12 := hold 12 (by kernel_rfl)
              have f13 := hold 13 (by kernel_rfl)
              have f14 := hold 14 (by kernel_rfl)
              have f15 := hold 15 (by kernel_rfl)
              have f16 := hold 16 (by kernel_rfl)
              have f17 := hold 17 (by kernel_rfl)
              have f18 := hold 18 (by kernel_rfl)
              have f19 := hold 19 (by kernel_rfl)
              have f20 := hold 20 (by kernel_rfl)
              have f21 := hold 21 (by kernel_rfl)
              have f22 := hold 22 (by kernel_rfl)
              have f23 := hold 23 (by kernel_rfl)
              have f24 := hold 24 (by kernel_rfl)
              have f25 := hold 25 (by kernel_rfl)
              have f26 := hold 26 (by kernel_rfl)
              have f27 := hold 27 (by kernel_rfl)
              have f28 := hold 28 (by kernel_rfl)
              have f29 := hold 29 (by kernel_rfl)
              have f30 := hold 30 (by kernel_rfl)
              have f31 := hold 31 (by kernel_rfl)
              have f32 := hold 32 (by kernel_rfl)
              have f33 := hold 33 (by kernel_rfl)
              have f34 := hold 34 (by kernel_rfl)
              have f35 := hold 35 (by kernel_rfl)
              have f36 := hold 36 (by kernel_rfl)
              have f37 := hold 37 (by kernel_rfl)
              have f38 := hold 38 (by kernel_rfl)
              have f39 := hold 39 (by kernel_rfl)
              have f40 := hold 40 (by kernel_rfl)
              have f41 := hold 41 (by kernel_rfl)
              have f42 := hold 42 (by kernel_rfl)
              have f43 := hold 43 (by kernel_rfl)
              have f44 := hold 44 (by kernel_rfl)
              have f45 := hold 45 (by kernel_rfl)
              have f46 := hold 46 (by kernel_rfl)
              have f47 := hold 47 (by kernel_rfl)
              have f48 := hold 48 (by kernel_rfl)
              have f49 := hold 49 (by kernel_rfl)
              have f50 := hold 50 (by kernel_rfl)
              have f51 := hold 51 (by kernel_rfl)
              have f52 := hold 52 (by kernel_rfl)
              have f53 := hold 53 (by kernel_rfl)
              have f54 := hold 54 (by kernel_rfl)
              have f55 := hold 55 (by kernel_rfl)
              have f56 := hold 56 (by kernel_rfl)
              have f57 := hold 57 (by kernel_rfl)
              have f58 := hold 58 (by kernel_rfl)
              have f59 := hold 59 (by kernel_rfl)
              have f60 := hold 60 (by kernel_rfl)
              have f61 := hold 61 (by kernel_rfl)
              have f62 := hold 62 (by kernel_rfl)
              have f63 := hold 63 (by kernel_rfl)
              have f64 := hold 64 (by kernel_rfl)
              have f65 := hold 65 (by kernel_rfl)
              have f66 := hold 66 (by kernel_rfl)
              have f67 := hold 67 (by kernel_rfl)
              have f68 := hold 68 (by kernel_rfl)
              have f69 := hold 69 (by kernel_rfl)
              have f70 := hold 70 (by kernel_rfl)
              have f71 := hold 71 (by kernel_rfl)
              have f72 := hold 72 (by kernel_rfl)
              have f73 := hold 73 (by kernel_rfl)
              have f74 := hold 74 (by kernel_rfl)
              have f75 := hold 75 (by kernel_rfl)
              have hB : b = _ := act_list b (show b.tmps.size = 99 from hsz) hdf
              rw [hB]
              simp only [List.range, List.range.loop, List.map_cons, List.map_nil, f0, f1, f2, f3, f4, f5, f6, f7, f8, f9, f10, f11, f12, f13, f14, f15, f16, f17, f18, f19, f20, f21, f22, f23, f24, f25, f26, f27, f28, f29, f30, f31, f32, f33, f34, f35, f36, f37, f38, f39, f40, f41, f42, f43, f44, f45, f46, f47, f48, f49, f50, f51, f52, f53, f54, f55, f56, f57, f58, f59, f60, f61, f62, f63, f64, f65, f66, f67, f68, f69, f70, f71, f72, f73, f74, f75, f98]
              generalize sl b 76 = v76, sl b 77 = v77, sl b 78 = v78, sl b 79 = v79, sl b 80 = v80, sl b 81 = v81, sl b 82 = v82, sl b 83 = v83, sl b 84 = v84, sl b 85 = v85, sl b 86 = v86, sl b 87 = v87, sl b 88 = v88, sl b 89 = v89, sl b 90 = v90, sl b 91 = v91, sl b 92 = v92, sl b 93 = v93, sl b 94 = v94, sl b 95 = v95, sl b 96 = v96, sl b 97 = v97
              simp only [sl, List.getElem?_toArray, List.getElem?_cons_succ, List.getElem?_cons_zero, Option.getD_some]
              clear hB hold hsz hdf hF f0 f1 f2 f3 f4 f5 f6 f7 f8 f9 f10 f11 f12 f13 f14 f15 f16 f17 f18 f19 f20 f21 f22 f23 f24 f25 f26 f27 f28 f29 f30 f31 f32 f33 f34 f35 f36 f37 f38 f39 f40 f41 f42 f43 f44 f45 f46 f47 f48 f49 f50 f51 f52 f53 f54 f55 f56 f57 f58 f59 f60 f61 f62 f63 f64 f65 f66 f67 f68 f69 f70 f71 f72 f73 f74 f75 f98
              have hb9 := hb4.trans ((hbr.trans (hR.mono hbr.size)).mono hb4.size)
              clear hR k7 r7 hgc
              go_wp2
              go_roundw
              case rel => exact ⟨ii + 1, by omega, by go_num, hb9⟩
              case measure => simp [intOf]; omega
      · obtain rfl : ii = 2 := by omega
        go_wp2
        go_ret
        exact ⟨rfl, fin hb4 hW3⟩

end Go.Proofs.Ytgcicillmljglaa
