/- Rows of pods in memory. -/
import Derived.Test.YtlehlbgaboifoabGreatDoorMg03
import Derived.Test.YtlehlbgaboifoabGreatDoorMg08
import Derived.Laws.AppendOwnNone
import Derived.Laws.MakeOwn
import Derived.Maps.AppendAt
import Derived.Sort.OwnSortedInts
import Derived.Lib.OwnBridge
namespace Go.Proofs.YtlehlbgaboifoabGreatDoor
open Go.RowKit Go.Sort Go.Maps

/-- A pod: its texts and numbers, its two rows of marks and where they lie. -/
structure PodT where
  name : ByteArray
  shard : Int
  cpu : Int
  mem : Int
  pa : Option Addr
  pc : Nat
  ps : List ByteArray
  ba : Option Addr
  bc : Nat
  bs : List ByteArray
  al : Bool

/-- Its rows of marks are there. -/
def PodT.Ok (w : World) (p : PodT) : Prop := Strs w p.pa p.ps ∧ Strs w p.ba p.bs

theorem PodT.Ok.later {w w1 : World} {p : PodT} (h : p.Ok w) (hb : Below w.heap.size w w1) : p.Ok w1 := ⟨h.1.later hb, h.2.later hb⟩

/-- Its seven cells lie from here on. -/
def PodAt (w : World) (B o : Nat) (p : PodT) : Prop :=
  w.cell? ⟨B, o, none⟩ = some (.string p.name) ∧ w.cell? ⟨B, o + 1, none⟩ = some (.int .i64 p.shard) ∧ w.cell? ⟨B, o + 2, none⟩ = some (.int .i64 p.cpu) ∧ w.cell? ⟨B, o + 3, none⟩ = some (.int .i64 p.mem) ∧
  w.cell? ⟨B, o + 4, none⟩ = some (.slice p.pa p.ps.length p.pc) ∧ w.cell? ⟨B, o + 5, none⟩ = some (.slice p.ba p.bs.length p.bc) ∧ w.cell? ⟨B, o + 6, none⟩ = some (.bool p.al)

theorem PodAt.later {w w1 : World} {B o : Nat} {p : PodT} (h : PodAt w B o p) (hb : Below w.heap.size w w1) : PodAt w1 B o p := by
  obtain ⟨h0, h1, h2, h3, h4, h5, h6⟩ := h
  have hB := block_lt h0
  exact ⟨cell_below hb h0 hB, cell_below hb h1 hB, cell_below hb h2 hB, cell_below hb h3 hB, cell_below hb h4 hB, cell_below hb h5 hB, cell_below hb h6 hB⟩

/-- A row of pods in memory. -/
def Pods (w : World) (a : Option Addr) (l : List PodT) : Prop :=
  l.length ≤ 1000 ∧ ∀ i p, l[i]? = some p → ∃ B o, a = some ⟨B, o, none⟩ ∧ PodAt w B (o + i * 7) p ∧ p.Ok w

theorem Pods.later {w w1 : World} {a : Option Addr} {l : List PodT} (h : Pods w a l) (hb : Below w.heap.size w w1) : Pods w1 a l :=
  ⟨h.1, fun i p hp => by
    obtain ⟨B, o, ha, h1, h2⟩ := h.2 i p hp
    exact ⟨B, o, ha, h1.later hb, h2.later hb⟩⟩

theorem info3 : (Tryz.prog.info? 3).map (fun i => (i.zero, i.size, i.bytes)) = some (some (.int .i64 0), 1, 8) := by kernel_rfl

theorem mk_ints (n : Nat) (hn : n ≤ 1000) (w : World) :
    (Instr.makeSlice 22 (.int .i64 0) (.int .i64 n)).run Tryz.prog w = .ok (.slice (some ⟨w.heap.size, 0, none⟩) 0 n) (w.alloc (.cells (madeCells (Value.int .i64 0).cells n) 3)) := by
  obtain ⟨i0, hi, hz0, hz1, hz2⟩ := info_parts info3
  have h := run_make (P := Tryz.prog) w 22 3 i0 (.int .i64 0) Tryz.underlying22 hi hz0 .i64 .i64 0 n (by omega) (by omega) (by rw [hz2]; omega) (by omega)
  rw [hz1] at h
  simpa using h

/-- The shards of a row of pods. -/
def shardsOf (l : List PodT) : List Int := l.map (·.shard)
/-- What Shards answers: rising, none twice. -/
def shardsB (l : List PodT) : List Int := Lib.compact ((shardsOf l).mergeSort fun x y => decide (x ≤ y))

/-- A row of numbers of the call's own. -/
def Ints (w : World) (g : Nat) (zs : List Int) : Prop := ∀ i z, zs[i]? = some z → w.cell? ⟨g, i, none⟩ = some (.int .i64 z)

theorem ints_of_own {w : World} {base g n cap : Nat} {zs : List Int} (h : w.ownsRow base 3 1 (.slice (some ⟨g, 0, none⟩) n cap) n (zs.map (Value.int .i64))) : Ints w g zs := by
  intro i z hz
  have := h.cells (g := g) rfl i (.int .i64 z) (by simp [hz])
  rcases Nat.eq_zero_or_pos i with rfl | hi
  · simpa [Addr.add] using this
  · simpa [Addr.add, show i ≠ 0 by omega] using this

/-- From what the sort and the compacting leave to what is told of the answer. -/
theorem left_of {w w1 : World} {g cap n nn q : Nat} {os : Array Obj} {ss : List Int} (hown : w1.ownsRow w.heap.size 3 1 (.slice (some ⟨g, 0, none⟩) n cap) n (ss.map (Value.int .i64))) (hbel : Below w.heap.size w w1) (hbg : w.heap.size ≤ g) (hlen : ss.length = n)
    {W : World} (hW : W = putRow (Value.int .i64) (Sort.ahead (grow (putRow (Value.int .i64) (Sort.ahead w1 nn) g 0 (ss.mergeSort fun x y => decide (x ≤ y)).toArray) os) q) g 0 (Lib.compact (ss.mergeSort fun x y => decide (x ≤ y)) ++ List.replicate (n - (Lib.compact (ss.mergeSort fun x y => decide (x ≤ y))).length) 0).toArray) :
    Ints W g (Lib.compact (ss.mergeSort fun x y => decide (x ≤ y))) ∧ Below w.heap.size w W := by
  subst hW
  have hl2 : (ss.mergeSort fun x y => decide (x ≤ y)).length = ss.length := List.length_mergeSort ss
  have hle := Lib.compact_length_le (ss.mergeSort fun x y => decide (x ≤ y))
  subst hlen
  rcases hown.2 with ⟨h0, _⟩ | ⟨g', cap', cur, hv, hbase, hb, h1, h2, h3, h4⟩
  · cases h0
  cases hv
  have hs := ownsRow_sortedI (n := nn) (os := os) (ts := ss.mergeSort fun x y => decide (x ≤ y)) hl2 hbase hb h1 h2 h3
  have hc := Lib.ownsRow_putRow (q := q) (k := (Lib.compact (ss.mergeSort fun x y => decide (x ≤ y))).length) (ys := Lib.compact (ss.mergeSort fun x y => decide (x ≤ y)) ++ List.replicate (ss.length - (Lib.compact (ss.mergeSort fun x y => decide (x ≤ y))).length) 0) hs (by simp; omega) (by omega)
  rw [List.take_left] at hc
  exact ⟨ints_of_own hc, Lib.below_putRow (hbel.grown (grownBy_sortedI _) hbel.size (fun j hj => by cases hj; exact hbase)) hbg⟩

theorem cell_two_new (w : World) (x : Value) (t : TypeId) (o : Obj) : ∀ j u, [x][j]? = some u → ((w.alloc o).alloc (.cells #[x] t)).cell? ((⟨w.heap.size + 1, 0, none⟩ : Addr).add j) = some u := by
  have := cell_one_new (w.alloc o) x t
  simpa using this

set_option maxRecDepth 100000 in
set_option maxHeartbeats 2000000 in
theorem shards_any (id : Int) (a : Option Addr) (c n : Nat) (l : List PodT) (w : World) (hl : l.length = n) (hP : Pods w a l) :
    Calls Tryz.prog 33 #[.agg #[.int .i64 id, .slice a n c]] w fun e w' => ∃ g cap, e = .returned (.slice (some ⟨g, 0, none⟩) (shardsB l).length cap) ∧ Ints w' g (shardsB l) ∧ w.heap.size ≤ g ∧ Below w.heap.size w w' := by
  have hn := hP.1
  rw [hl] at hn
  have hmk := mk_ints n hn
  obtain ⟨i0, hi, hz0, hz1, hz2⟩ := info_parts info3
  obtain ⟨L, hL⟩ : ∃ L, shardsB l = L := ⟨_, rfl⟩
  have HL : Hid (shardsB l = L) := hL
  rw [hL]
  clear hL
  go_enter Tryz.func33, Tryz.ntmps33
  go_wp2
  go_loopw [3, 13] (fun v i wr => ∃ k : Nat, k ≤ n ∧ i = .int .i64 k ∧ v ≠ .slice none 0 0 ∧ wr.ownsRow w.heap.size 3 1 v k (((shardsOf l).take k).map (Value.int .i64)) ∧ Below w.heap.size w wr) (fun _ i _ => n - (intOf i).toNat)
  case atStart =>
    refine ⟨0, Nat.zero_le _, rfl, by simp, ?_, ((Below.refl _ _).alloc (Nat.le_refl _) _).alloc (by simp) _⟩
    have := World.ownsRow_made (base := w.heap.size) (e := 3) (size := 1) (w.alloc (.cells #[.int .i64 id, .slice a n c] 39)) (madeCells #[.int .i64 0] n) n (by simp) (by unfold maxLen; omega) (by rw [size_madeCells]; omega)
    simpa using this
  case round =>
    obtain ⟨k, hk, rfl, hnn, hrow, hbw⟩ := hrel
    have hPr := hP.later hbw
    by_cases hlt : k < n
    · obtain ⟨B, o, rfl, hat, hok⟩ := hPr.2 k _ (List.getElem?_eq_getElem (by omega))
      have hstep : (shardsOf l).take (k + 1) = (shardsOf l).take k ++ [l[k].shard] := by
        unfold shardsOf
        rw [List.take_add_one, List.getElem?_map, List.getElem?_eq_getElem (by omega)]
        rfl
      obtain ⟨p, hp⟩ : ∃ p, l[k] = p := ⟨_, rfl⟩
      rw [hp] at hat hok hstep
      obtain ⟨name, shard, cpu, mem, pa, pc, ps, ba, bc, bs, al⟩ := p
      obtain ⟨d0, d1, d2, d3, d4, d5, d6⟩ := hat
      simp only at d0 d1 d2 d3 d4 d5 d6 hstep
      obtain ⟨ms, hms⟩ : ∃ ms, (shardsOf l).take k = ms := ⟨_, rfl⟩
      rw [hms] at hrow hstep
      have Hs : Hid ((shardsOf l).take (k + 1) = ms ++ [shard]) := hstep
      clear hstep hms hP hPr hok hp
      go_wp2_with (first
        | (at_builtin; refine wpList_append_own _ rfl _ _ 22 rfl w.heap.size 3 i0 (.int .i64 0) 1 8 Tryz.underlying22 hi hz0 hz1 hz2 rfl (by decide) _ _ _ rfl ((hrow.alloc _).alloc _) ⟨_, 0, none⟩ 1 1 [.int .i64 shard] rfl rfl (cell_two_new _ _ _ _) (fun u hu => by simp at hu; subst hu; rfl) (by unfold maxLen; omega) (by omega) (by simp; have := hbw.size; omega) ?_; intro v' w1 hown' hgrow hnil)
        | go_in)
      go_roundw
      case rel =>
        refine ⟨k + 1, hlt, by go_num, (fun e => by cases (hnil.1 e).2), by rw [Hs.out, List.map_append]; exact hown', ?_⟩
        exact ((hbw.alloc hbw.size _).alloc (by simp; have := hbw.size; omega) _).grown hgrow (by simp; have := hbw.size; omega) (fun j hj => (hrow.lt j hj).1)
      case measure => simp [intOf]; omega
    · have e1 : k = n := by omega
      subst e1
      have e2 : (shardsOf l).take k = shardsOf l := List.take_of_length_le (by simp [shardsOf, hl])
      rw [e2] at hrow
      have hlen : (shardsOf l).length = k := by simp [shardsOf, hl]
      obtain ⟨zs, hzs⟩ : ∃ zs, shardsOf l = zs := ⟨_, rfl⟩
      have hcs : Lib.compact (zs.mergeSort fun x y => decide (x ≤ y)) = L := by rw [← HL.out, ← hzs]; rfl
      rw [hzs] at hrow hlen
      clear HL hzs e2 hP hPr
      obtain ⟨g, cap, rfl, hbg, hgl, hncap, hcm, _, hH⟩ := Lib.holds_of_ownsRow hrow hnn
      have hsort := Tryz.slices_Sort_int g 0 cap zs wr hH hgl (by omega)
      rw [hlen] at hsort
      have hl2 : (zs.mergeSort fun x y => decide (x ≤ y)).length = k := by rw [List.length_mergeSort]; exact hlen
      have hcomp := fun nn os => Tryz.slices_Compact_int g 0 cap (zs.mergeSort fun x y => decide (x ≤ y)) (grow (putRow (Value.int .i64) (Sort.ahead wr nn) g 0 (zs.mergeSort fun x y => decide (x ≤ y)).toArray) os)
        (holds_grow (Value.int .i64) _ os g 0 _ (by simpa [putRow, mapBlock, Sort.ahead] using hgl) (holds_putRow (Value.int .i64) _ g 0 _ _ (holds_ahead (Value.int .i64) wr nn g 0 _ hH) (by simp))) (by omega) (by omega)
      rw [hl2] at hcomp
      have hend := fun nn os q => left_of (q := q) (nn := nn) (os := os) hrow hbw hbg hlen rfl
      simp only [hcs] at hend hcomp
      clear hrow hH hl2 hcs hnn
      go_wp2_with (first
        | (go_at_call 77; refine hsort.mono ?_; rintro e w2 ⟨rfl, nn, os, hw2⟩; replace hcomp := hcomp nn os; replace hend := hend nn os; rw [← hw2] at hcomp hend; clear hw2)
        | (go_at_call 78; refine hcomp.mono ?_; rintro e w3 ⟨rfl, q, hw3⟩; replace hend := hend q; rw [← hw3] at hend; clear hw3))
      go_ret
      exact ⟨g, cap, rfl, hend.1, hbg, hend.2⟩

end Go.Proofs.YtlehlbgaboifoabGreatDoor
