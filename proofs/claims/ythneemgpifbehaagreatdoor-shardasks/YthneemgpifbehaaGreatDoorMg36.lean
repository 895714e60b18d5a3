/- Package pack: the best node of a pod. -/
import Derived.Test.YthneemgpifbehaaGreatDoorMg34
import Derived.Test.YthneemgpifbehaaGreatDoorMg35
import Derived.Test.YthneemgpifbehaaGreatDoorMg31
import Derived.Maps.AppendAt
namespace Go.Proofs.YthneemgpifbehaaGreatDoor
open Go.RowKit Go.Maps
set_option linter.unusedSimpArgs false
set_option linter.unusedVariables false

/-- A pod: its texts and numbers, its two rows of marks and where they lie. -/
structure PodT where
  name : ByteArray
  shard : Int
  cpu : Int
  mem : Int
  pa : Option Addr
  pc : Nat
  ps : List ByteArray
  ba : Option Addr
  bc : Nat
  bs : List ByteArray
  al : Bool
def PodT.val (p : PodT) : Value := .agg #[.string p.name, .int .i64 p.shard, .int .i64 p.cpu, .int .i64 p.mem, .slice p.pa p.ps.length p.pc, .slice p.ba p.bs.length p.bc, .bool p.al]
/-- Its rows of marks are there; it may be asked for. -/
structure PodT.Ok (w : World) (p : PodT) : Prop where
  h1 : Strs w p.pa p.ps
  h2 : Strs w p.ba p.bs
  z1 : ∀ s ∈ p.ps, s.size ≤ maxLen
  z2 : ∀ s ∈ p.bs, s.size ≤ maxLen
  c : 0 ≤ p.cpu ∧ 0 ≤ p.mem
theorem PodT.Ok.later {w w1 : World} {p : PodT} (h : p.Ok w) (hb : Below w.heap.size w w1) : p.Ok w1 := ⟨h.h1.later hb, h.h2.later hb, h.z1, h.z2, h.c⟩
def plT (q : Pl) : PlaceT := ⟨q.pod, q.node, q.cpu, q.mem, q.al⟩
theorem places_pls {w : World} {a : Option Addr} {l : List Pl} (h : Pls w a l) : Places w a (l.map plT) :=
  ⟨by simpa using h.1, fun i p hp => by
    simp only [List.getElem?_map] at hp
    cases hl : l[i]? with
    | none => rw [hl] at hp; cases hp
    | some q =>
      rw [hl] at hp
      simp only [Option.map_some, Option.some.injEq] at hp
      subst hp
      obtain ⟨B, o, ha, hc⟩ := h.2 i q hl
      exact ⟨B, o, ha, hc⟩⟩
theorem small_getD {l : List ByteArray} (h : ∀ s ∈ l, s.size ≤ maxLen) (i : Nat) : (l.getD i ByteArray.empty).size ≤ maxLen := by
  rcases Nat.lt_or_ge i l.length with hi | hi
  · simp only [List.getD, List.getElem?_eq_getElem hi, Option.getD_some]
    exact h _ (List.getElem_mem hi)
  · simp only [List.getD, List.getElem?_eq_none hi, Option.getD_none]
    exact Nat.zero_le _

section
variable {w w' : World} {base : Nat} {e : TypeId} {size : Nat} {v : Value} {n : Nat} {xs : List Value}
/-- A row of another type than the one that is appended to stays. -/
theorem own_beside {e2 : TypeId} {size2 n2 : Nat} {v2 : Value} {xs2 : List Value} {base2 : Nat} (h : w.ownsRow base e size v n xs) (h2 : w.ownsRow base2 e2 size2 v2 n2 xs2) (hne : e ≠ e2) (hg : w.grownBy w' v2.ownBlock) : w'.ownsRow base e size v n xs := by
  refine ⟨h.1, ?_⟩
  rcases h.2 with h0 | ⟨g, cap, cur, hv, hgb, hh, hrest⟩
  · exact .inl h0
  · refine .inr ⟨g, cap, cur, hv, hgb, ?_, hrest⟩
    rw [← hh]
    refine hg.block g (Array.getElem?_eq_some_iff.1 hh).1 fun heq => ?_
    rcases h2.2 with ⟨h0, _⟩ | ⟨g2, cap2, cur2, hv2, _, hh2, _⟩
    · rw [h0] at heq
      cases heq
    · rw [hv2] at heq
      simp only [Value.ownBlock, Option.some.injEq] at heq
      rw [heq, hh2] at hh
      simp only [Option.some.injEq, Obj.cells.injEq] at hh
      exact hne hh.2.1.symm
theorem slice_of_own (h : w.ownsRow base e size v n xs) : ∃ a c, v = .slice a n c := by
  rcases h.2 with ⟨rfl, h0⟩ | ⟨g, cap, cur, rfl, _⟩
  · exact ⟨none, 0, by rw [h0]⟩
  · exact ⟨_, _, rfl⟩
end

/-- Why a pod may not stand on a node; how it scores there. -/
def whyR (G : List (Int × Grp)) (l : List Pl) (p : PodT) (r : Rec) : Int := whyN r.cl (allB p.ps r.xs) (allB r.ys p.bs) (roomB (useC G l r.nm) (useM G l r.nm) p.cpu p.mem r.cpu r.mem) p.al ((onB r.nm l.reverse).map plT)
def scR (G : List (Int × Grp)) (l : List Pl) (mode : Int) (p : PodT) (r : Rec) : Int := scoreV mode (leftF r.cpu r.mem (useC G l r.nm) (useM G l r.nm) p.cpu p.mem) (useN G l r.nm)
/-- The nodes where it may stand. -/
def candR (G : List (Int × Grp)) (l : List Pl) (p : PodT) (R : List Rec) : List Rec := R.filter fun r => decide (whyR G l p r = 0)
theorem candR_take {G : List (Int × Grp)} {l : List Pl} {p : PodT} {R : List Rec} {k : Nat} (h : k < R.length) : candR G l p (R.take (k + 1)) = candR G l p (R.take k) ++ if whyR G l p R[k] = 0 then [R[k]] else [] := by
  rw [List.take_succ_eq_append_getElem h]
  unfold candR
  rw [List.filter_append]
  by_cases e : whyR G l p R[k] = 0 <;> simp [e]
/-- The best one's name. -/
def bestR (G : List (Int × Grp)) (l : List Pl) (mode : Int) (p : PodT) (R : List Rec) : Option ByteArray :=
  if candR G l p R = [] then none else some (((candR G l p R).map (·.nm)).getD (bstAt ((candR G l p R).map (·.nm)) ((candR G l p R).map (scR G l mode p)) (candR G l p R).length).toNat ByteArray.empty)

theorem why_room {cl a1 a2 rm al : Bool} {l : List PlaceT} (h : whyN cl a1 a2 rm al l = 0) : rm = true := by
  unfold whyN at h
  cases rm
  · cases cl <;> cases a1 <;> cases a2 <;> simp at h
  · rfl
theorem good_of_why {G : List (Int × Grp)} {l : List Pl} {p : PodT} {r : Rec} (h : whyR G l p r = 0) (hu : 0 ≤ useC G l r.nm ∧ 0 ≤ useM G l r.nm) (hp : 0 ≤ p.cpu ∧ 0 ≤ p.mem) (hc : r.cpu ≤ 1099511627776 ∧ r.mem ≤ 1099511627776) : Good r.cpu r.mem (useC G l r.nm) (useM G l r.nm) p.cpu p.mem := by
  have := why_room h
  unfold roomB at this
  simp only [decide_eq_true_eq] at this
  unfold Good
  omega

/-- The function behind a room's Used, and what it is called on. -/
def RoomAt (w : World) (L : Nat) (G : List (Int × Grp)) (l : List Pl) (F : Nat) : Prop :=
  ∃ T V X, roomV L l = .iface T V ∧ (∀ w, (method 455 T V "Used").run Tryz.prog w = .ok (F, X) w) ∧
      ∀ s, s.size ≤ maxLen → ∀ W, Below w.heap.size w W → Calls Tryz.prog F #[X, .string s] W fun e w' => e = .returned (usedV G l s) ∧ Below W.heap.size W w'
theorem room_used (L : Nat) (fp : Nat → Prop) (E : List (ByteArray × Rec)) (G : List (Int × Grp)) (hG : G.length ≤ 100) (l : List Pl) (hl : LaidOk G l) (h8 : l.length ≤ 8) (w : World) (h : Led w L fp E G) : RoomAt w L G l 62 ∨ RoomAt w L G l 321 := by
  have k := fun s hs W hW => lUsed_any L fp E G s hs hG l hl h8 W (h.later hW)
  cases l with
  | nil => exact .inl ⟨_, _, _, rfl, meth24 _, k⟩
  | cons q t => exact .inr ⟨_, _, _, rfl, meth98 _, k⟩

theorem ints_own {w : World} {base : Nat} {v : Value} {n : Nat} {zs : List Int} (h : w.ownsRow base 3 1 v n (zs.map (Value.int .i64))) : ∃ a cap, v = .slice a zs.length cap ∧ HasRow w a zs.length zs := by
  have hn : zs.length = n := by have := h.1; simpa using this
  rcases h.2 with ⟨rfl, h0⟩ | ⟨g, cap, cur, rfl, hb, hh, hncap, hmax, hrest⟩
  · exact ⟨none, 0, by rw [hn, h0], by omega, fun i hi => by omega⟩
  · refine ⟨some ⟨g, 0, none⟩, cap, by rw [hn], by omega, fun i hi => ⟨_, rfl, ?_⟩⟩
    refine h.cells (g := g) rfl i _ ?_
    simp [List.getElem?_eq_getElem hi]
theorem info3 : (Tryz.prog.info? 3).map (fun i => (i.zero, i.size, i.bytes)) = some (some (.int .i64 0), 1, 8) := by kernel_rfl
theorem cfbes (args : Array Value) (w : World) : (callFunc 284 args).run Tryz.prog w = .ok (.enter 284 args) w := by kernel_rfl
theorem cfwhy (args : Array Value) (w : World) : (callFunc 283 args).run Tryz.prog w = .ok (.enter 283 args) w := by kernel_rfl

def bestF (P N V : Nat) (pv : PodT) (r : Rec) (u v : Int) (rv : Value) (ob : List Pl) (y : Int) (bv : Bool) : Nat → Value → World → Prop
  | 0, x, _ => x = pv.val
  | 1, x, _ => x = .agg #[.string r.nm, .int .i64 r.cpu, .int .i64 r.mem, .slice r.a1 r.xs.length r.c1, .slice r.a2 r.ys.length r.c2, .bool r.cl]
  | 2, x, _ => x = .agg #[.int .i64 u, .int .i64 v]
  | 3, x, _ => x = rv
  | 4, x, _ => x = .pointer (some ⟨N, 0, none⟩)
  | 5, x, _ => x = .string r.nm
  | 6, x, w => ∃ a c, x = .slice a ob.length c ∧ Pls w a ob
  | 7, x, _ => x = .int .i64 y
  | 8, x, _ => x = .bool bv
  | _, _, _ => True

set_option maxRecDepth 100000 in
set_option maxHeartbeats 16000000 in
theorem pbest_0 (L : Nat) (fp : Nat → Prop) (E : List (ByteArray × Rec)) (G : List (Int × Grp)) (hG : G.length ≤ 100) (l : List Pl) (hl : LaidOk G l) (h8 : l.length ≤ 8) (w : World) (hled : Led w L fp E G) (hT : Tab w)
    (g : Nat) (base n c : Nat) (R : List Rec) (hN : Nds w base (some ⟨g, 0, none⟩) R) (hRl : R.length = n) (hn8 : n ≤ 8) (hRE : ∀ r ∈ R, (r.nm.size ≤ maxLen ∧ r.cpu ≤ 1099511627776 ∧ r.mem ≤ 1099511627776) ∧ (∀ s ∈ r.xs, s.size ≤ maxLen) ∧ ∀ s ∈ r.ys, s.size ≤ maxLen)
    (p : PodT) (hp : p.Ok w) (mode : Int) (hat0 : RoomAt w L G l 62) :
    Calls Tryz.prog 273 #[roomV L l, .slice (some ⟨g, 0, none⟩) n c, p.val, .int .i64 mode] w fun e w' => e = .returned (.tuple #[.string ((bestR G l mode p R).getD ByteArray.empty), .bool (bestR G l mode p R).isSome]) ∧ Below w.heap.size w w' := by
  obtain ⟨i0, hi, hz0, hz1, hz2⟩ := info_parts info9
  obtain ⟨j0, hj, hy0', hy1, hy2⟩ := info_parts info3
  obtain ⟨T, V, X, hroom, hmeth, kU⟩ := hat0
  have kB := fun s W => beside_any L l h8 s W
  rw [hroom] at kB
  have hnn := fun s => hl.least hled.1 s
  have hmm := fun s => LaidOk.most hled.1 hl s
  have hcc := fun s => useN_bound hled.1 l s
  rw [hroom]
  have hpc := hp.c
  have hpz1 := small_getD hp.z1
  have hpz2 := small_getD hp.z2
  obtain ⟨RS, hRS⟩ : ∃ RS, bestR G l mode p R = RS := ⟨_, rfl⟩
  rw [hRS]
  have hRS : Hid _ := hRS
  unfold PodT.val
  go_enter Tryz.func273, Tryz.ntmps273
  go_wp2
  have hP0 := Box.new w #[.string p.name, .int .i64 p.shard, .int .i64 p.cpu, .int .i64 p.mem, .slice p.pa p.ps.length p.pc, .slice p.ba p.bs.length p.bc, .bool p.al] 63 rfl
  have hb0 : Below w.heap.size w (w.alloc (.cells #[.string p.name, .int .i64 p.shard, .int .i64 p.cpu, .int .i64 p.mem, .slice p.pa p.ps.length p.pc, .slice p.ba p.bs.length p.bc, .bool p.al] 63)) := up (Below.refl _ _) _
  generalize w.alloc (.cells #[.string p.name, .int .i64 p.shard, .int .i64 p.cpu, .int .i64 p.mem, .slice p.pa p.ps.length p.pc, .slice p.ba p.bs.length p.bc, .bool p.al] 63) = W at hP0 hb0 ⊢
  generalize hPe : w.heap.size = PB at hP0 ⊢
  go_loopw [10, 11, 19] (fun a b i wr => ∃ k : Nat, k ≤ n ∧ i = .int .i64 k ∧ wr.ownsRow W.heap.size 9 1 a (candR G l p (R.take k)).length ((candR G l p (R.take k)).map fun r => Value.string r.nm) ∧ wr.ownsRow W.heap.size 3 1 b (candR G l p (R.take k)).length ((candR G l p (R.take k)).map fun r => Value.int .i64 (scR G l mode p r)) ∧ Below W.heap.size W wr) (fun _ _ i _ => n - (intOf i).toNat)
  case atStart => exact ⟨0, Nat.zero_le _, rfl, World.ownsRow_nil _ _ _ _, World.ownsRow_nil _ _ _ _, Below.refl _ _⟩
  case round =>
    obtain ⟨k, hk, rfl, hA, hB, hbw⟩ := hrel
    have hbww : Below w.heap.size w wr := hb0.trans (hbw.mono hb0.size)
    have hlen : (candR G l p (R.take k)).length ≤ k := Nat.le_trans (List.length_filter_le _ _) (by simp; omega)
    by_cases hlt : k < n
    · obtain ⟨g', hg', _, _, hat, hnew⟩ := hN k _ (List.getElem?_eq_getElem (show k < R.length by omega))
      cases hg'
      have hst := candR_take (G := G) (l := l) (p := p) (R := R) (k := k) (by omega)
      obtain ⟨hrs, hrx, hry⟩ := hRE (R[k]'(by omega)) (List.getElem_mem _)
      obtain ⟨r, hr⟩ : ∃ r, R[k]'(by omega) = r := ⟨R[k]'(by omega), rfl⟩
      rw [hr] at hat hnew hst hrs hrx hry
      have kUr := kU r.nm hrs.1
      have kBr := kB r.nm
      have nn := hnn r.nm
      have mm := hmm r.nm
      have cc := hcc r.nm
      have hrx := small_getD hrx
      have hry := small_getD hry
      have hs1 := hnew.h1
      have hs2 := hnew.h2
      obtain ⟨y, hy⟩ : ∃ y, whyR G l p r = y := ⟨_, rfl⟩
      have hgood := fun h => good_of_why (G := G) (l := l) (p := p) (r := r) h nn hpc ⟨hrs.2.1, hrs.2.2⟩
      have hsc : ∃ z, scR G l mode p r = z := ⟨_, rfl⟩
      obtain ⟨z, hz⟩ := hsc
      have hst : Hid _ := hst
      have hy' := hy
      unfold whyR at hy'
      have hz' := hz
      unfold scR at hz'
      obtain ⟨nm, cpu, mem, a1, c1, xs, a2, c2, ys, cl, ru, rm, rk⟩ := r
      simp only at hrs kUr kBr nn mm cc hrx hry hs1 hs2 hy' hz' hgood
      obtain ⟨d0, d1, d2, d3, d4, d5⟩ := hat
      simp only at d0 d1 d2 d3 d4 d5
      have d0 := cell_below hbww d0 (block_lt d0)
      have d1 := cell_below hbww d1 (block_lt d1)
      have d2 := cell_below hbww d2 (block_lt d2)
      have d3 := cell_below hbww d3 (block_lt d3)
      have d4 := cell_below hbww d4 (block_lt d4)
      have d5 := cell_below hbww d5 (block_lt d5)
      unfold usedV at kUr
      obtain ⟨u, hu⟩ : ∃ u, useC G l nm = u := ⟨_, rfl⟩
      obtain ⟨v, hv⟩ : ∃ v, useM G l nm = v := ⟨_, rfl⟩
      obtain ⟨q, hq⟩ : ∃ q, useN G l nm = q := ⟨_, rfl⟩
      rw [hu, hv, hq] at kUr
      rw [hu, hv] at nn mm hy' hgood
      rw [hq] at cc
      rw [hu, hv, hq] at hz'
      obtain ⟨ob, hob⟩ : ∃ ob, onB nm l.reverse = ob := ⟨_, rfl⟩
      rw [hob] at kBr hy'
      have hobl : ob.length ≤ 8 := by rw [← hob]; exact Nat.le_trans (List.length_filter_le _ _) (by simp; omega)
      have i1 : (k : Int) < n := by omega
      clear hr hu hv hq hob hnew kU kB hnn hmm hcc hRE hN
      go_upto_region 6 with fail
      have hP1 := (hP0.later hbw).up (.cells #[.string nm, .int .i64 cpu, .int .i64 mem, .slice a1 xs.length c1, .slice a2 ys.length c2, .bool cl] 55)
      have hN1 := Box.new wr #[.string nm, .int .i64 cpu, .int .i64 mem, .slice a1 xs.length c1, .slice a2 ys.length c2, .bool cl] 55 rfl
      have hb1 := up hbww (.cells #[.string nm, .int .i64 cpu, .int .i64 mem, .slice a1 xs.length c1, .slice a2 ys.length c2, .bool cl] 55)
      have hbw1 := up hbw (.cells #[.string nm, .int .i64 cpu, .int .i64 mem, .slice a1 xs.length c1, .slice a2 ys.length c2, .bool cl] 55)
      have hA1 := hA.alloc (.cells #[.string nm, .int .i64 cpu, .int .i64 mem, .slice a1 xs.length c1, .slice a2 ys.length c2, .bool cl] 55)
      have hB1 := hB.alloc (.cells #[.string nm, .int .i64 cpu, .int .i64 mem, .slice a1 xs.length c1, .slice a2 ys.length c2, .bool cl] 55)
      have hAl : ∀ j, u10.ownBlock = some j → W.heap.size ≤ j ∧ j < wr.heap.size := fun j hj => ⟨(hA.lt j hj).1, (hA.lt j hj).2⟩
      generalize hW1 : wr.alloc (.cells #[.string nm, .int .i64 cpu, .int .i64 mem, .slice a1 xs.length c1, .slice a2 ys.length c2, .bool cl] 55) = w1 at *
      have hz1s : w1.heap.size = wr.heap.size + 1 := by rw [← hW1]; simp
      have c0 := hN1.cell (i := 0) rfl
      clear hW1 d0 d1 d2 d3 d4 d5 hA hB hbw hbww
      generalize hNe : wr.heap.size = N at *
      go_upto_region 7 with (go_at_call 62; refine (kUr _ hb1).mono ?_; rintro e w3 ⟨rfl, hb3⟩)
      have hP4 := (hP1.later hb3).up (.cells #[.int .i64 u, .int .i64 v] 52)
      have hN4 := (hN1.later hb3).up (.cells #[.int .i64 u, .int .i64 v] 52)
      have hV4 := Box.new w3 #[.int .i64 u, .int .i64 v] 52 rfl
      have hb4 := up (hb1.trans (hb3.mono hb1.size)) (.cells #[.int .i64 u, .int .i64 v] 52)
      have hbw4 := up (hbw1.trans (hb3.mono hbw1.size)) (.cells #[.int .i64 u, .int .i64 v] 52)
      have hA4 := own_after (own_after hA1 hb3) (up (Below.refl _ _) (.cells #[.int .i64 u, .int .i64 v] 52))
      have hB4 := own_after (own_after hB1 hb3) (up (Below.refl _ _) (.cells #[.int .i64 u, .int .i64 v] 52))
      have z3 := hb3.size
      generalize w3.alloc (.cells #[.int .i64 u, .int .i64 v] 52) = w4 at *
      generalize hVe : w3.heap.size = V3 at *
      have kW : ∀ W1, Below w.heap.size w W1 → ∀ a c, Pls W1 a ob → Calls Tryz.prog 283 #[.agg #[.string p.name, .int .i64 p.shard, .int .i64 p.cpu, .int .i64 p.mem, .slice p.pa p.ps.length p.pc, .slice p.ba p.bs.length p.bc, .bool p.al], .agg #[.string nm, .int .i64 cpu, .int .i64 mem, .slice a1 xs.length c1, .slice a2 ys.length c2, .bool cl], .agg #[.int .i64 u, .int .i64 v], .slice a ob.length c] W1 fun e w' => e = .returned (.int .i64 y) ∧ Below W1.heap.size W1 w' := by
        intro W1 hW1 a c ha
        have := why_any p.name p.shard p.cpu p.mem p.pa p.ps.length p.pc p.ba p.bs.length p.bc p.al nm cpu mem a1 xs.length c1 a2 ys.length c2 cl u v a ob.length c p.ps p.bs xs ys (ob.map plT) _ _ _ W1 rfl rfl rfl rfl (by simp) (hp.h1.later hW1) (hp.h2.later hW1) (hs1.later hW1) (hs2.later hW1) (places_pls ha) hpz1 hpz2 hrx hry ⟨hpc.1, hpc.2, nn.1, nn.2⟩ (by omega) rfl rfl rfl
        rwa [hy'] at this
      have hbv : ∃ bv : Bool, bv = (y != 0) := ⟨_, rfl⟩
      obtain ⟨bv, hbv⟩ := hbv
      clear kUr hb3 hP1 hN1 hb1 hbw1 hA1 hB1 c0
      refine wp_region_rely (fun w1 => Below w4.heap.size w4 w1) (fun w1 w2 => Below w1.heap.size w1 w2) (bestF PB N V3 p ⟨nm, cpu, mem, a1, c1, xs, a2, c2, ys, cl, ru, rm, rk⟩ u v (.iface T V) ob y bv) (by kernel_rfl) (by kernel_rfl) (Below.refl _ _).drew ?keep ?step ?rest
      case keep =>
        intro i v w1 w2 hS hF
        unfold bestF at *
        split at hF <;> try exact hF
        obtain ⟨a, c, hv, hc⟩ := hF
        exact ⟨a, c, hv, hc.later hS⟩
      case step =>
        intro i o d ho hd b w5 hR hold hdep
        have o0 : sl b 0 = .iface T V := hold 0 (by kernel_rfl)
        have o6 : sl b 6 = .pointer (some ⟨PB, 0, none⟩) := hold 6 (by kernel_rfl)
        have o13 : sl b 13 = .pointer (some ⟨N, 0, none⟩) := hold 13 (by kernel_rfl)
        have o14 : sl b 14 = .pointer (some ⟨V3, 0, none⟩) := hold 14 (by kernel_rfl)
        have hb0' := Below.refl w5.heap.size w5
        obtain ⟨p0, p1, p2, p3, p4, p5, p6⟩ := (hP4.later hR).cells7
        obtain ⟨n0, n1, n2, n3, n4, n5⟩ := (hN4.later hR).cells6
        obtain ⟨v0, v1⟩ := (hV4.later hR).cells2
        rcases i with _ | _ | _ | _ | _ | _ | _ | _ | _ | i
        all_goals try (cases ho; cases hd)
        · exact ok_val' rfl rfl (want_none rfl b) (by simp [go_sem, o6, p0, p1, p2, p3, p4, p5, p6]; rfl) hR hb0' rfl
        · exact ok_val' rfl rfl (want_none rfl b) (by simp [go_sem, o13, n0, n1, n2, n3, n4, n5]) hR hb0' rfl
        · exact ok_val' rfl rfl (want_none rfl b) (by simp [go_sem, o14, v0, v1]) hR hb0' rfl
        · exact ok_val' rfl rfl (want_none rfl b) (by simp [go_sem, o0]) hR hb0' rfl
        · exact ok_val' rfl rfl (want_none rfl b) (by simp [go_sem, o13]) hR hb0' rfl
        · have f34 : sl b 34 = .pointer (some ⟨N, 0, none⟩) := hdep 4 _ _ rfl rfl (by kernel_rfl)
          exact ok_val' rfl rfl (want_none rfl b) (by simp [go_sem, f34, n0]) hR hb0' rfl
        · have f33 : sl b 33 = .iface T V := hdep 3 _ _ rfl rfl (by kernel_rfl)
          have f35 : sl b 35 = .string nm := hdep 5 _ _ rfl rfl (by kernel_rfl)
          refine ok_enter' rfl rfl (want_none rfl b) ?_ ((kBr w5).mono ?_)
          · simp [go_sem, f33, f35, cfbes]
          rintro e w6 ⟨a, c, rfl, hPl, hb6⟩
          exact ⟨_, rfl, hR.trans (hb6.mono hR.size), hb6, a, c, rfl, hPl⟩
        · have f30 : sl b 30 = .agg #[.string p.name, .int .i64 p.shard, .int .i64 p.cpu, .int .i64 p.mem, .slice p.pa p.ps.length p.pc, .slice p.ba p.bs.length p.bc, .bool p.al] := hdep 0 _ _ rfl rfl (by kernel_rfl)
          have f31 : sl b 31 = .agg #[.string nm, .int .i64 cpu, .int .i64 mem, .slice a1 xs.length c1, .slice a2 ys.length c2, .bool cl] := hdep 1 _ _ rfl rfl (by kernel_rfl)
          have f32 : sl b 32 = .agg #[.int .i64 u, .int .i64 v] := hdep 2 _ _ rfl rfl (by kernel_rfl)
          obtain ⟨a, c, f36, hPl⟩ : ∃ a c, sl b 36 = .slice a ob.length c ∧ Pls w5 a ob := hdep 6 _ _ rfl rfl (by kernel_rfl)
          refine ok_enter' rfl rfl (want_none rfl b) ?_ ((kW w5 (hb4.trans (hR.mono hb4.size)) a c hPl).mono ?_)
          · simp [go_sem, f30, f31, f32, f36, cfwhy]
          rintro e w6 ⟨rfl, hb6⟩
          exact ⟨_, rfl, hR.trans (hb6.mono hR.size), hb6, rfl⟩
        · have f37 : sl b 37 = .int .i64 y := hdep 7 _ _ rfl rfl (by kernel_rfl)
          exact ok_val' rfl rfl (want_none rfl b) (by subst hbv; simp [go_sem, f37]) hR hb0' rfl
        · cases ho
      case rest =>
        intro b w5 hR hsz hdf hold hF
        have f38 : sl b 38 = .bool bv := hF 8 _ _ rfl rfl
        have e0 := hold 0 (by kernel_rfl)
        have e1 := hold 1 (by kernel_rfl)
        have e2 := hold 2 (by kernel_rfl)
        have e3 := hold 3 (by kernel_rfl)
        have e4 := hold 4 (by kernel_rfl)
        have e5 := hold 5 (by kernel_rfl)
        have e6 := hold 6 (by kernel_rfl)
        have e7 := hold 7 (by kernel_rfl)
        have e8 := hold 8 (by kernel_rfl)
        have e9 := hold 9 (by kernel_rfl)
        have e10 := hold 10 (by kernel_rfl)
        have e11 := hold 11 (by kernel_rfl)
        have e12 := hold 12 (by kernel_rfl)
        have e13 := hold 13 (by kernel_rfl)
        have e14 := hold 14 (by kernel_rfl)
        have e15 := hold 15 (by kernel_rfl)
        have e16 := hold 16 (by kernel_rfl)
        have e17 := hold 17 (by kernel_rfl)
        have e18 := hold 18 (by kernel_rfl)
        have e19 := hold 19 (by kernel_rfl)
        have e20 := hold 20 (by kernel_rfl)
        have e21 := hold 21 (by kernel_rfl)
        have e22 := hold 22 (by kernel_rfl)
        have e23 := hold 23 (by kernel_rfl)
        have e24 := hold 24 (by kernel_rfl)
        have e25 := hold 25 (by kernel_rfl)
        have e26 := hold 26 (by kernel_rfl)
        have e27 := hold 27 (by kernel_rfl)
        have e28 := hold 28 (by kernel_rfl)
        have e29 := hold 29 (by kernel_rfl)
        have e39 := hold 39 (by kernel_rfl)
        have e40 := hold 40 (by kernel_rfl)
        have e41 := hold 41 (by kernel_rfl)
        have e42 := hold 42 (by kernel_rfl)
        have e43 := hold 43 (by kernel_rfl)
        have e44 := hold 44 (by kernel_rfl)
        have e45 := hold 45 (by kernel_rfl)
        have e46 := hold 46 (by kernel_rfl)
        have e47 := hold 47 (by kernel_rfl)
        have e48 := hold 48 (by kernel_rfl)
        have e49 := hold 49 (by kernel_rfl)
        have e50 := hold 50 (by kernel_rfl)
        have e51 := hold 51 (by kernel_rfl)
        have e52 := hold 52 (by kernel_rfl)
        have e53 := hold 53 (by kernel_rfl)
        have e54 := hold 54 (by kernel_rfl)
        have e55 := hold 55 (by kernel_rfl)
        have e56 := hold 56 (by kernel_rfl)
        have e57 := hold 57 (by kernel_rfl)
        have e58 := hold 58 (by kernel_rfl)
        have e59 := hold 59 (by kernel_rfl)
        have e60 := hold 60 (by kernel_rfl)
        have e61 := hold 61 (by kernel_rfl)
        have e62 := hold 62 (by kernel_rfl)
        have e63 := hold 63 (by kernel_rfl)
        have e64 := hold 64 (by kernel_rfl)
        have hB9 : b = _ := act_list b (show b.tmps.size = 65 from hsz) hdf
        rw [hB9]
        simp only [List.range, List.range.loop, List.map_cons, List.map_nil, f38, e0, e1, e2, e3, e4, e5, e6, e7, e8, e9, e10, e11, e12, e13, e14, e15, e16, e17, e18, e19, e20, e21, e22, e23, e24, e25, e26, e27, e28, e29, e39, e40, e41, e42, e43, e44, e45, e46, e47, e48, e49, e50, e51, e52, e53, e54, e55, e56, e57, e58, e59, e60, e61, e62, e63, e64]
        generalize sl b 30 = v30, sl b 31 = v31, sl b 32 = v32, sl b 33 = v33, sl b 34 = v34, sl b 35 = v35, sl b 36 = v36, sl b 37 = v37
        simp only [sl, List.getElem?_toArray, List.getElem?_cons_succ, List.getElem?_cons_zero, Option.getD_some]
        clear e0 e1 e2 e3 e4 e5 e6 e7 e8 e9 e10 e11 e12 e13 e14 e15 e16 e17 e18 e19 e20 e21 e22 e23 e24 e25 e26 e27 e28 e29 e39 e40 e41 e42 e43 e44 e45 e46 e47 e48 e49 e50 e51 e52 e53 e54 e55 e56 e57 e58 e59 e60 e61 e62 e63 e64 f38 hB9 hold hdf hsz hF kW kBr
        have hP5 := hP4.later hR
        have hN5 := hN4.later hR
        have hV5 := hV4.later hR
        have hA5 := own_after hA4 hR
        have hB5 := own_after hB4 hR
        have hb5 := hb4.trans (hR.mono hb4.size)
        have hbw5 := hbw4.trans (hR.mono hbw4.size)
        have zR := hR.size
        have zV := hV4.lt
        clear hP4 hN4 hV4 hA4 hB4 hb4 hbw4 hR
        by_cases hy0 : y = 0
        · subst hy0
          obtain rfl : bv = false := by rw [hbv]; rfl
          have kS : ∀ W1, Below w.heap.size w W1 → Calls Tryz.prog 285 #[.int .i64 mode, .agg #[.int .i64 cpu, .int .i64 mem], .agg #[.int .i64 u, .int .i64 v], .agg #[.int .i64 p.cpu, .int .i64 p.mem], .int .i64 q] W1 fun e w' => e = .returned (.int .i64 z) ∧ Below W1.heap.size W1 w' :=
            fun W1 h => score_any mode cpu mem u v p.cpu p.mem q z (hgood hy) (by omega) hz' W1 (hT.later h)
          have hPW := hP0.lt
          have n0 := hN5.cell (i := 0) rfl
          clear hbv hz' hgood
          go_upto_region 9 with (first
            | (at_builtin; refine wpList_append_own_at _ rfl _ _ 53 rfl W.heap.size 9 i0 _ 1 16 Tryz.underlying53 hi hz0 hz1 hz2 rfl (by decide) _ _ _ rfl (hA5.alloc _) ⟨_, 0, none⟩ 1 1 [.string nm] rfl rfl (cells_new _ _ _ _ rfl) (by intro u hu; simp only [List.mem_cons, List.not_mem_nil, or_false] at hu; rcases hu with rfl; rfl) (by unfold maxLen; omega) (by omega) (by have := hbw5.size; simp; omega) ?_; intro v6 w6 hown6 hgrow6 hnil6 hat6)
            | go_in)
          have hP6 := (hP5.up _).grown hgrow6 (fun e => by have := (hAl _ e.symm).1; omega)
          have hN6 := (hN5.up _).grown hgrow6 (fun e => by have := (hAl _ e.symm).2; omega)
          have hV6 := (hV5.up _).grown hgrow6 (fun e => by have := (hAl _ e.symm).2; omega)
          have hB6 := own_beside (hB5.alloc _) (hA5.alloc _) (by decide) hgrow6
          have hb6 : Below w.heap.size w w6 := (up hb5 _).grown hgrow6 (by have := hb5.size; simp; omega) (fun j hj => by have := (hAl j hj).1; have := hb0.size; omega)
          have hbw6 : Below W.heap.size W w6 := (up hbw5 _).grown hgrow6 (by have := hbw5.size; simp; omega) (fun j hj => (hAl j hj).1)
          have hBl : ∀ j, u11.ownBlock = some j → W.heap.size ≤ j := fun j hj => (hB5.lt j hj).1
          clear hP5 hN5 hV5 hA5 hB5 hb5 hbw5 n0 hgrow6 hat6 hnil6
          obtain ⟨p0, p1, p2, p3, p4, p5, p6⟩ := hP6.cells7
          obtain ⟨n0, n1, n2, n3, n4, n5⟩ := hN6.cells6
          obtain ⟨v0, v1⟩ := hV6.cells2
          go_wp2_with (first
            | (go_at_call 285; refine (kS _ hb6).mono ?_; rintro e w7 ⟨rfl, hb7⟩)
            | (at_builtin; refine wpList_append_own_at _ rfl _ _ 22 rfl W.heap.size 3 j0 _ 1 8 Tryz.underlying22 hj hy0' hy1 hy2 rfl (by decide) _ _ _ rfl ((own_after hB6 hb7).alloc _) ⟨_, 0, none⟩ 1 1 [.int .i64 z] rfl rfl (cells_new _ _ _ _ rfl) (by intro u hu; simp only [List.mem_cons, List.not_mem_nil, or_false] at hu; rcases hu with rfl; rfl) (by unfold maxLen; omega) (by omega) (by have := hbw6.size; have := hb7.size; simp; omega) ?_; intro v8 w8 hown8 hgrow8 hnil8 hat8)
            | go_in)
          have hbw7 := hbw6.trans (hb7.mono hbw6.size)
          go_roundw
          case rel =>
            refine ⟨k + 1, by omega, by go_num, ?_, ?_, (up hbw7 _).grown hgrow8 (by have := hbw7.size; simp; omega) hBl⟩
            · rw [hst.out, if_pos hy, List.length_append, List.map_append]
              exact own_beside ((own_after hown6 hb7).alloc _) ((own_after hB6 hb7).alloc _) (by decide) hgrow8
            · rw [hst.out, if_pos hy, List.length_append, List.map_append]
              simpa [hz] using hown8
          case measure => simp [intOf]; omega
        · obtain rfl : bv = true := by rw [hbv]; simpa using hy0
          go_wp2
          go_roundw
          case rel =>
            refine ⟨k + 1, by omega, by go_num, ?_, ?_, hbw5⟩
            · rw [hst.out, if_neg (by rw [hy]; exact hy0), List.append_nil]; exact hA5
            · rw [hst.out, if_neg (by rw [hy]; exact hy0), List.append_nil]; exact hB5
          case measure => simp [intOf]; omega
    · obtain rfl : k = n := by omega
      rw [List.take_of_length_le (by omega)] at hA hB hlen
      have hmap1 : ((candR G l p R).map fun r => Value.string r.nm) = ((candR G l p R).map (·.nm)).map Value.string := by rw [List.map_map]; rfl
      have hmap2 : ((candR G l p R).map fun r => Value.int .i64 (scR G l mode p r)) = ((candR G l p R).map (scR G l mode p)).map (Value.int .i64) := by rw [List.map_map]; rfl
      rw [hmap1] at hA
      rw [hmap2] at hB
      have l1 : ((candR G l p R).map (·.nm)).length = (candR G l p R).length := List.length_map _
      have l2 : ((candR G l p R).map (scR G l mode p)).length = (candR G l p R).length := List.length_map _
      have hR0 : bestR G l mode p R = if (candR G l p R).length = 0 then none else some (((candR G l p R).map (·.nm)).getD (bstAt ((candR G l p R).map (·.nm)) ((candR G l p R).map (scR G l mode p)) (candR G l p R).length).toNat ByteArray.empty) := by
        unfold bestR
        by_cases h0 : candR G l p R = []
        · rw [if_pos h0, if_pos (by rw [h0]; rfl)]
        · rw [if_neg h0, if_neg (fun h => h0 (List.eq_nil_of_length_eq_zero h))]
      rw [hRS.out] at hR0
      obtain ⟨a9, c9, rfl, hS9, _, _, _⟩ := strs_own hA (by omega)
      obtain ⟨b9, d9, rfl, hI9⟩ := ints_own hB
      rw [l2] at hI9
      simp only [l1, l2]
      generalize (candR G l p R).map (·.nm) = ss at *
      generalize (candR G l p R).map (scR G l mode p) = zs at *
      generalize (candR G l p R).length = m at *
      have kb := best_any a9 b9 c9 d9 m ss zs _ wr hS9 hI9 l1 rfl
      clear hA hB hmap1 hmap2 hN hRE
      by_cases hm0 : m = 0
      · subst hm0
        rw [if_pos rfl] at hR0
        have hR0 : Hid _ := hR0
        have e0 : bstAt ss zs 0 = -1 := rfl
        rw [e0] at kb
        go_wp2_with (go_at_call 286; refine kb.mono ?_; rintro e w9 ⟨rfl, hb9⟩)
        go_ret2
        exact ⟨by rw [hR0.out]; rfl, hbww.trans (hb9.mono hbww.size)⟩
      · rw [if_neg hm0] at hR0
        obtain ⟨j, hj9⟩ : ∃ j : Nat, bstAt ss zs m = j := ⟨(bstAt ss zs m).toNat, by have := bst_ge ss zs m (by omega); omega⟩
        have hjm : j < m := by have := bst_lt ss zs m; omega
        rw [hj9, Int.toNat_natCast] at hR0
        obtain ⟨sj, hsj⟩ : ∃ sj, ss.getD j ByteArray.empty = sj := ⟨_, rfl⟩
        rw [hsj] at hR0
        have hR0 : Hid _ := hR0
        rw [hj9] at kb
        obtain ⟨x, rfl, hx⟩ := hS9.2 j (by omega)
        rw [hsj] at hx
        clear hsj
        have j1 : (j : Int) < m := by omega
        have j2 : ¬ (j : Int) < 0 := by omega
        go_wp2_with (go_at_call 286; refine kb.mono ?_; rintro e w9 ⟨rfl, hb9⟩; have hx := cell_below hb9 hx (block_lt hx))
        go_ret2
        exact ⟨by rw [hR0.out]; rfl, hbww.trans (hb9.mono hbww.size)⟩

set_option maxRecDepth 100000 in
set_option maxHeartbeats 16000000 in
theorem pbest_1 (L : Nat) (fp : Nat → Prop) (E : List (ByteArray × Rec)) (G : List (Int × Grp)) (hG : G.length ≤ 100) (l : List Pl) (hl : LaidOk G l) (h8 : l.length ≤ 8) (w : World) (hled : Led w L fp E G) (hT : Tab w)
    (g : Nat) (base n c : Nat) (R : List Rec) (hN : Nds w base (some ⟨g, 0, none⟩) R) (hRl : R.length = n) (hn8 : n ≤ 8) (hRE : ∀ r ∈ R, (r.nm.size ≤ maxLen ∧ r.cpu ≤ 1099511627776 ∧ r.mem ≤ 1099511627776) ∧ (∀ s ∈ r.xs, s.size ≤ maxLen) ∧ ∀ s ∈ r.ys, s.size ≤ maxLen)
    (p : PodT) (hp : p.Ok w) (mode : Int) (hat0 : RoomAt w L G l 321) :
    Calls Tryz.prog 273 #[roomV L l, .slice (some ⟨g, 0, none⟩) n c, p.val, .int .i64 mode] w fun e w' => e = .returned (.tuple #[.string ((bestR G l mode p R).getD ByteArray.empty), .bool (bestR G l mode p R).isSome]) ∧ Below w.heap.size w w' := by
  obtain ⟨i0, hi, hz0, hz1, hz2⟩ := info_parts info9
  obtain ⟨j0, hj, hy0', hy1, hy2⟩ := info_parts info3
  obtain ⟨T, V, X, hroom, hmeth, kU⟩ := hat0
  have kB := fun s W => beside_any L l h8 s W
  rw [hroom] at kB
  have hnn := fun s => hl.least hled.1 s
  have hmm := fun s => LaidOk.most hled.1 hl s
  have hcc := fun s => useN_bound hled.1 l s
  rw [hroom]
  have hpc := hp.c
  have hpz1 := small_getD hp.z1
  have hpz2 := small_getD hp.z2
  obtain ⟨RS, hRS⟩ : ∃ RS, bestR G l mode p R = RS := ⟨_, rfl⟩
  rw [hRS]
  have hRS : Hid _ := hRS
  unfold PodT.val
  go_enter Tryz.func273, Tryz.ntmps273
  go_wp2
  have hP0 := Box.new w #[.string p.name, .int .i64 p.shard, .int .i64 p.cpu, .int .i64 p.mem, .slice p.pa p.ps.length p.pc, .slice p.ba p.bs.length p.bc, .bool p.al] 63 rfl
  have hb0 : Below w.heap.size w (w.alloc (.cells #[.string p.name, .int .i64 p.shard, .int .i64 p.cpu, .int .i64 p.mem, .slice p.pa p.ps.length p.pc, .slice p.ba p.bs.length p.bc, .bool p.al] 63)) := up (Below.refl _ _) _
  generalize w.alloc (.cells #[.string p.name, .int .i64 p.shard, .int .i64 p.cpu, .int .i64 p.mem, .slice p.pa p.ps.length p.pc, .slice p.ba p.bs.length p.bc, .bool p.al] 63) = W at hP0 hb0 ⊢
  generalize hPe : w.heap.size = PB at hP0 ⊢
  go_loopw [10, 11, 19] (fun a b i wr => ∃ k : Nat, k ≤ n ∧ i = .int .i64 k ∧ wr.ownsRow W.heap.size 9 1 a (candR G l p (R.take k)).length ((candR G l p (R.take k)).map fun r => Value.string r.nm) ∧ wr.ownsRow W.heap.size 3 1 b (candR G l p (R.take k)).length ((candR G l p (R.take k)).map fun r => Value.int .i64 (scR G l mode p r)) ∧ Below W.heap.size W wr) (fun _ _ i _ => n - (intOf i).toNat)
  case atStart => exact ⟨0, Nat.zero_le _, rfl, World.ownsRow_nil _ _ _ _, World.ownsRow_nil _ _ _ _, Below.refl _ _⟩
  case round =>
    obtain ⟨k, hk, rfl, hA, hB, hbw⟩ := hrel
    have hbww : Below w.heap.size w wr := hb0.trans (hbw.mono hb0.size)
    have hlen : (candR G l p (R.take k)).length ≤ k := Nat.le_trans (List.length_filter_le _ _) (by simp; omega)
    by_cases hlt : k < n
    · obtain ⟨g', hg', _, _, hat, hnew⟩ := hN k _ (List.getElem?_eq_getElem (show k < R.length by omega))
      cases hg'
      have hst := candR_take (G := G) (l := l) (p := p) (R := R) (k := k) (by omega)
      obtain ⟨hrs, hrx, hry⟩ := hRE (R[k]'(by omega)) (List.getElem_mem _)
      obtain ⟨r, hr⟩ : ∃ r, R[k]'(by omega) = r := ⟨R[k]'(by omega), rfl⟩
      rw [hr] at hat hnew hst hrs hrx hry
      have kUr := kU r.nm hrs.1
      have kBr := kB r.nm
      have nn := hnn r.nm
      have mm := hmm r.nm
      have cc := hcc r.nm
      have hrx := small_getD hrx
      have hry := small_getD hry
      have hs1 := hnew.h1
      have hs2 := hnew.h2
      obtain ⟨y, hy⟩ : ∃ y, whyR G l p r = y := ⟨_, rfl⟩
      have hgood := fun h => good_of_why (G := G) (l := l) (p := p) (r := r) h nn hpc ⟨hrs.2.1, hrs.2.2⟩
      have hsc : ∃ z, scR G l mode p r = z := ⟨_, rfl⟩
      obtain ⟨z, hz⟩ := hsc
      have hst : Hid _ := hst
      have hy' := hy
      unfold whyR at hy'
      have hz' := hz
      unfold scR at hz'
      obtain ⟨nm, cpu, mem, a1, c1, xs, a2, c2, ys, cl, ru, rm, rk⟩ := r
      simp only at hrs kUr kBr nn mm cc hrx hry hs1 hs2 hy' hz' hgood
      obtain ⟨d0, d1, d2, d3, d4, d5⟩ := hat
      simp only at d0 d1 d2 d3 d4 d5
      have d0 := cell_below hbww d0 (block_lt d0)
      have d1 := cell_below hbww d1 (block_lt d1)
      have d2 := cell_below hbww d2 (block_lt d2)
      have d3 := cell_below hbww d3 (block_lt d3)
      have d4 := cell_below hbww d4 (block_lt d4)
      have d5 := cell_below hbww d5 (block_lt d5)
      unfold usedV at kUr
      obtain ⟨u, hu⟩ : ∃ u, useC G l nm = u := ⟨_, rfl⟩
      obtain ⟨v, hv⟩ : ∃ v, useM G l nm = v := ⟨_, rfl⟩
      obtain ⟨q, hq⟩ : ∃ q, useN G l nm = q := ⟨_, rfl⟩
      rw [hu, hv, hq] at kUr
      rw [hu, hv] at nn mm hy' hgood
      rw [hq] at cc
      rw [hu, hv, hq] at hz'
      obtain ⟨ob, hob⟩ : ∃ ob, onB nm l.reverse = ob := ⟨_, rfl⟩
      rw [hob] at kBr hy'
      have hobl : ob.length ≤ 8 := by rw [← hob]; exact Nat.le_trans (List.length_filter_le _ _) (by simp; omega)
      have i1 : (k : Int) < n := by omega
      clear hr hu hv hq hob hnew kU kB hnn hmm hcc hRE hN
      go_upto_region 6 with fail
      have hP1 := (hP0.later hbw).up (.cells #[.string nm, .int .i64 cpu, .int .i64 mem, .slice a1 xs.length c1, .slice a2 ys.length c2, .bool cl] 55)
      have hN1 := Box.new wr #[.string nm, .int .i64 cpu, .int .i64 mem, .slice a1 xs.length c1, .slice a2 ys.length c2, .bool cl] 55 rfl
      have hb1 := up hbww (.cells #[.string nm, .int .i64 cpu, .int .i64 mem, .slice a1 xs.length c1, .slice a2 ys.length c2, .bool cl] 55)
      have hbw1 := up hbw (.cells #[.string nm, .int .i64 cpu, .int .i64 mem, .slice a1 xs.length c1, .slice a2 ys.length c2, .bool cl] 55)
      have hA1 := hA.alloc (.cells #[.string nm, .int .i64 cpu, .int .i64 mem, .slice a1 xs.length c1, .slice a2 ys.length c2, .bool cl] 55)
      have hB1 := hB.alloc (.cells #[.string nm, .int .i64 cpu, .int .i64 mem, .slice a1 xs.length c1, .slice a2 ys.length c2, .bool cl] 55)
      have hAl : ∀ j, u10.ownBlock = some j → W.heap.size ≤ j ∧ j < wr.heap.size := fun j hj => ⟨(hA.lt j hj).1, (hA.lt j hj).2⟩
      generalize hW1 : wr.alloc (.cells #[.string nm, .int .i64 cpu, .int .i64 mem, .slice a1 xs.length c1, .slice a2 ys.length c2, .bool cl] 55) = w1 at *
      have hz1s : w1.heap.size = wr.heap.size + 1 := by rw [← hW1]; simp
      have c0 := hN1.cell (i := 0) rfl
      clear hW1 d0 d1 d2 d3 d4 d5 hA hB hbw hbww
      generalize hNe : wr.heap.size = N at *
      go_upto_region 7 with (go_at_call 321; refine (kUr _ hb1).mono ?_; rintro e w3 ⟨rfl, hb3⟩)
      have hP4 := (hP1.later hb3).up (.cells #[.int .i64 u, .int .i64 v] 52)
      have hN4 := (hN1.later hb3).up (.cells #[.int .i64 u, .int .i64 v] 52)
      have hV4 := Box.new w3 #[.int .i64 u, .int .i64 v] 52 rfl
      have hb4 := up (hb1.trans (hb3.mono hb1.size)) (.cells #[.int .i64 u, .int .i64 v] 52)
      have hbw4 := up (hbw1.trans (hb3.mono hbw1.size)) (.cells #[.int .i64 u, .int .i64 v] 52)
      have hA4 := own_after (own_after hA1 hb3) (up (Below.refl _ _) (.cells #[.int .i64 u, .int .i64 v] 52))
      have hB4 := own_after (own_after hB1 hb3) (up (Below.refl _ _) (.cells #[.int .i64 u, .int .i64 v] 52))
      have z3 := hb3.size
      generalize w3.alloc (.cells #[.int .i64 u, .int .i64 v] 52) = w4 at *
      generalize hVe : w3.heap.size = V3 at *
      have kW : ∀ W1, Below w.heap.size w W1 → ∀ a c, Pls W1 a ob → Calls Tryz.prog 283 #[.agg #[.string p.name, .int .i64 p.shard, .int .i64 p.cpu, .int .i64 p.mem, .slice p.pa p.ps.length p.pc, .slice p.ba p.bs.length p.bc, .bool p.al], .agg #[.string nm, .int .i64 cpu, .int .i64 mem, .slice a1 xs.length c1, .slice a2 ys.length c2, .bool cl], .agg #[.int .i64 u, .int .i64 v], .slice a ob.length c] W1 fun e w' => e = .returned (.int .i64 y) ∧ Below W1.heap.size W1 w' := by
        intro W1 hW1 a c ha
        have := why_any p.name p.shard p.cpu p.mem p.pa p.ps.length p.pc p.ba p.bs.length p.bc p.al nm cpu mem a1 xs.length c1 a2 ys.length c2 cl u v a ob.length c p.ps p.bs xs ys (ob.map plT) _ _ _ W1 rfl rfl rfl rfl (by simp) (hp.h1.later hW1) (hp.h2.later hW1) (hs1.later hW1) (hs2.later hW1) (places_pls ha) hpz1 hpz2 hrx hry ⟨hpc.1, hpc.2, nn.1, nn.2⟩ (by omega) rfl rfl rfl
        rwa [hy'] at this
      have hbv : ∃ bv : Bool, bv = (y != 0) := ⟨_, rfl⟩
      obtain ⟨bv, hbv⟩ := hbv
      clear kUr hb3 hP1 hN1 hb1 hbw1 hA1 hB1 c0
      refine wp_region_rely (fun w1 => Below w4.heap.size w4 w1) (fun w1 w2 => Below w1.heap.size w1 w2) (bestF PB N V3 p ⟨nm, cpu, mem, a1, c1, xs, a2, c2, ys, cl, ru, rm, rk⟩ u v (.iface T V) ob y bv) (by kernel_rfl) (by kernel_rfl) (Below.refl _ _).drew ?keep ?step ?rest
      case keep =>
        intro i v w1 w2 hS hF
        unfold bestF at *
        split at hF <;> try exact hF
        obtain ⟨a, c, hv, hc⟩ := hF
        exact ⟨a, c, hv, hc.later hS⟩
      case step =>
        intro i o d ho hd b w5 hR hold hdep
        have o0 : sl b 0 = .iface T V := hold 0 (by kernel_rfl)
        have o6 : sl b 6 = .pointer (some ⟨PB, 0, none⟩) := hold 6 (by kernel_rfl)
        have o13 : sl b 13 = .pointer (some ⟨N, 0, none⟩) := hold 13 (by kernel_rfl)
        have o14 : sl b 14 = .pointer (some ⟨V3, 0, none⟩) := hold 14 (by kernel_rfl)
        have hb0' := Below.refl w5.heap.size w5
        obtain ⟨p0, p1, p2, p3, p4, p5, p6⟩ := (hP4.later hR).cells7
        obtain ⟨n0, n1, n2, n3, n4, n5⟩ := (hN4.later hR).cells6
        obtain ⟨v0, v1⟩ := (hV4.later hR).cells2
        rcases i with _ | _ | _ | _ | _ | _ | _ | _ | _ | i
        all_goals try (cases ho; cases hd)
        · exact ok_val' rfl rfl (want_none rfl b) (by simp [go_sem, o6, p0, p1, p2, p3, p4, p5, p6]; rfl) hR hb0' rfl
        · exact ok_val' rfl rfl (want_none rfl b) (by simp [go_sem, o13, n0, n1, n2, n3, n4, n5]) hR hb0' rfl
        · exact ok_val' rfl rfl (want_none rfl b) (by simp [go_sem, o14, v0, v1]) hR hb0' rfl
        · exact ok_val' rfl rfl (want_none rfl b) (by simp [go_sem, o0]) hR hb0' rfl
        · exact ok_val' rfl rfl (want_none rfl b) (by simp [go_sem, o13]) hR hb0' rfl
        · have f34 : sl b 34 = .pointer (some ⟨N, 0, none⟩) := hdep 4 _ _ rfl rfl (by kernel_rfl)
          exact ok_val' rfl rfl (want_none rfl b) (by simp [go_sem, f34, n0]) hR hb0' rfl
        · have f33 : sl b 33 = .iface T V := hdep 3 _ _ rfl rfl (by kernel_rfl)
          have f35 : sl b 35 = .string nm := hdep 5 _ _ rfl rfl (by kernel_rfl)
          refine ok_enter' rfl rfl (want_none rfl b) ?_ ((kBr w5).mono ?_)
          · simp [go_sem, f33, f35, cfbes]
          rintro e w6 ⟨a, c, rfl, hPl, hb6⟩
          exact ⟨_, rfl, hR.trans (hb6.mono hR.size), hb6, a, c, rfl, hPl⟩
        · have f30 : sl b 30 = .agg #[.string p.name, .int .i64 p.shard, .int .i64 p.cpu, .int .i64 p.mem, .slice p.pa p.ps.length p.pc, .slice p.ba p.bs.length p.bc, .bool p.al] := hdep 0 _ _ rfl rfl (by kernel_rfl)
          have f31 : sl b 31 = .agg #[.string nm, .int .i64 cpu, .int .i64 mem, .slice a1 xs.length c1, .slice a2 ys.length c2, .bool cl] := hdep 1 _ _ rfl rfl (by kernel_rfl)
          have f32 : sl b 32 = .agg #[.int .i64 u, .int .i64 v] := hdep 2 _ _ rfl rfl (by kernel_rfl)
          obtain ⟨a, c, f36, hPl⟩ : ∃ a c, sl b 36 = .slice a ob.length c ∧ Pls w5 a ob := hdep 6 _ _ rfl rfl (by kernel_rfl)
          refine ok_enter' rfl rfl (want_none rfl b) ?_ ((kW w5 (hb4.trans (hR.mono hb4.size)) a c hPl).mono ?_)
          · simp [go_sem, f30, f31, f32, f36, cfwhy]
          rintro e w6 ⟨rfl, hb6⟩
          exact ⟨_, rfl, hR.trans (hb6.mono hR.size), hb6, rfl⟩
        · have f37 : sl b 37 = .int .i64 y := hdep 7 _ _ rfl rfl (by kernel_rfl)
          exact ok_val' rfl rfl (want_none rfl b) (by subst hbv; simp [go_sem, f37]) hR hb0' rfl
        · cases ho
      case rest =>
        intro b w5 hR hsz hdf hold hF
        have f38 : sl b 38 = .bool bv := hF 8 _ _ rfl rfl
        have e0 := hold 0 (by kernel_rfl)
        have e1 := hold 1 (by kernel_rfl)
        have e2 := hold 2 (by kernel_rfl)
        have e3 := hold 3 (by kernel_rfl)
        have e4 := hold 4 (by kernel_rfl)
        have e5 := hold 5 (by kernel_rfl)
        have e6 := hold 6 (by kernel_rfl)
        have e7 := hold 7 (by kernel_rfl)
        have e8 := hold 8 (by kernel_rfl)
        have e9 := hold 9 (by kernel_rfl)
        have e10 := hold 10 (by kernel_rfl)
        have e11 := hold 11 (by kernel_rfl)
        have e12 := hold 12 (by kernel_rfl)
        have e13 := hold 13 (by kernel_rfl)
        have e14 := hold 14 (by kernel_rfl)
        have e15 := hold 15 (by kernel_rfl)
        have e16 := hold 16 (by kernel_rfl)
        have e17 := hold 17 (by kernel_rfl)
        have e18 := hold 18 (by kernel_rfl)
        have e19 := hold 19 (by kernel_rfl)
        have e20 := hold 20 (by kernel_rfl)
        have e21 := hold 21 (by kernel_rfl)
        have e22 := hold 22 (by kernel_rfl)
        have e23 := hold 23 (by kernel_rfl)
        have e24 := hold 24 (by kernel_rfl)
        have e25 := hold 25 (by kernel_rfl)
        have e26 := hold 26 (by kernel_rfl)
        have e27 := hold 27 (by kernel_rfl)
        have e28 := hold 28 (by kernel_rfl)
        have e29 := hold 29 (by kernel_rfl)
        have e39 := hold 39 (by kernel_rfl)
        have e40 := hold 40 (by kernel_rfl)
        have e41 := hold 41 (by kernel_rfl)
        have e42 := hold 42 (by kernel_rfl)
        have e43 := hold 43 (by kernel_rfl)
        have e44 := hold 44 (by kernel_rfl)
        have e45 := hold 45 (by kernel_rfl)
        have e46 := hold 46 (by kernel_rfl)
        have e47 := hold 47 (by kernel_rfl)
        have e48 := hold 48 (by kernel_rfl)
        have e49 := hold 49 (by kernel_rfl)
        have e50 := hold 50 (by kernel_rfl)
        have e51 := hold 51 (by kernel_rfl)
        have e52 := hold 52 (by kernel_rfl)
        have e53 := hold 53 (by kernel_rfl)
        have e54 := hold 54 (by kernel_rfl)
        have e55 := hold 55 (by kernel_rfl)
        have e56 := hold 56 (by kernel_rfl)
        have e57 := hold 57 (by kernel_rfl)
        have e58 := hold 58 (by kernel_rfl)
        have e59 := hold 59 (by kernel_rfl)
        have e60 := hold 60 (by kernel_rfl)
        have e61 := hold 61 (by kernel_rfl)
        have e62 := hold 62 (by kernel_rfl)
        have e63 := hold 63 (by kernel_rfl)
        have e64 := hold 64 (by kernel_rfl)
        have hB9 : b = _ := act_list b (show b.tmps.size = 65 from hsz) hdf
        rw [hB9]
        simp only [List.range, List.range.loop, List.map_cons, List.map_nil, f38, e0, e1, e2, e3, e4, e5, e6, e7, e8, e9, e10, e11, e12, e13, e14, e15, e16, e17, e18, e19, e20, e21, e22, e23, e24, e25, e26, e27, e28, e29, e39, e40, e41, e42, e43, e44, e45, e46, e47, e48, e49, e50, e51, e52, e53, e54, e55, e56, e57, e58, e59, e60, e61, e62, e63, e64]
        generalize sl b 30 = v30, sl b 31 = v31, sl b 32 = v32, sl b 33 = v33, sl b 34 = v34, sl b 35 = v35, sl b 36 = v36, sl b 37 = v37
        simp only [sl, List.getElem?_toArray, List.getElem?_cons_succ, List.getElem?_cons_zero, Option.getD_some]
        clear e0 e1 e2 e3 e4 e5 e6 e7 e8 e9 e10 e11 e12 e13 e14 e15 e16 e17 e18 e19 e20 e21 e22 e23 e24 e25 e26 e27 e28 e29 e39 e40 e41 e42 e43 e44 e45 e46 e47 e48 e49 e50 e51 e52 e53 e54 e55 e56 e57 e58 e59 e60 e61 e62 e63 e64 f38 hB9 hold hdf hsz hF kW kBr
        have hP5 := hP4.later hR
        have hN5 := hN4.later hR
        have hV5 := hV4.later hR
        have hA5 := own_after hA4 hR
        have hB5 := own_after hB4 hR
        have hb5 := hb4.trans (hR.mono hb4.size)
        have hbw5 := hbw4.trans (hR.mono hbw4.size)
        have zR := hR.size
        have zV := hV4.lt
        clear hP4 hN4 hV4 hA4 hB4 hb4 hbw4 hR
        by_cases hy0 : y = 0
        · subst hy0
          obtain rfl : bv = false := by rw [hbv]; rfl
          have kS : ∀ W1, Below w.heap.size w W1 → Calls Tryz.prog 285 #[.int .i64 mode, .agg #[.int .i64 cpu, .int .i64 mem], .agg #[.int .i64 u, .int .i64 v], .agg #[.int .i64 p.cpu, .int .i64 p.mem], .int .i64 q] W1 fun e w' => e = .returned (.int .i64 z) ∧ Below W1.heap.size W1 w' :=
            fun W1 h => score_any mode cpu mem u v p.cpu p.mem q z (hgood hy) (by omega) hz' W1 (hT.later h)
          have hPW := hP0.lt
          have n0 := hN5.cell (i := 0) rfl
          clear hbv hz' hgood
          go_upto_region 9 with (first
            | (at_builtin; refine wpList_append_own_at _ rfl _ _ 53 rfl W.heap.size 9 i0 _ 1 16 Tryz.underlying53 hi hz0 hz1 hz2 rfl (by decide) _ _ _ rfl (hA5.alloc _) ⟨_, 0, none⟩ 1 1 [.string nm] rfl rfl (cells_new _ _ _ _ rfl) (by intro u hu; simp only [List.mem_cons, List.not_mem_nil, or_false] at hu; rcases hu with rfl; rfl) (by unfold maxLen; omega) (by omega) (by have := hbw5.size; simp; omega) ?_; intro v6 w6 hown6 hgrow6 hnil6 hat6)
            | go_in)
          have hP6 := (hP5.up _).grown hgrow6 (fun e => by have := (hAl _ e.symm).1; omega)
          have hN6 := (hN5.up _).grown hgrow6 (fun e => by have := (hAl _ e.symm).2; omega)
          have hV6 := (hV5.up _).grown hgrow6 (fun e => by have := (hAl _ e.symm).2; omega)
          have hB6 := own_beside (hB5.alloc _) (hA5.alloc _) (by decide) hgrow6
          have hb6 : Below w.heap.size w w6 := (up hb5 _).grown hgrow6 (by have := hb5.size; simp; omega) (fun j hj => by have := (hAl j hj).1; have := hb0.size; omega)
          have hbw6 : Below W.heap.size W w6 := (up hbw5 _).grown hgrow6 (by have := hbw5.size; simp; omega) (fun j hj => (hAl j hj).1)
          have hBl : ∀ j, u11.ownBlock = some j → W.heap.size ≤ j := fun j hj => (hB5.lt j hj).1
          clear hP5 hN5 hV5 hA5 hB5 hb5 hbw5 n0 hgrow6 hat6 hnil6
          obtain ⟨p0, p1, p2, p3, p4, p5, p6⟩ := hP6.cells7
          obtain ⟨n0, n1, n2, n3, n4, n5⟩ := hN6.cells6
          obtain ⟨v0, v1⟩ := hV6.cells2
          go_wp2_with (first
            | (go_at_call 285; refine (kS _ hb6).mono ?_; rintro e w7 ⟨rfl, hb7⟩)
            | (at_builtin; refine wpList_append_own_at _ rfl _ _ 22 rfl W.heap.size 3 j0 _ 1 8 Tryz.underlying22 hj hy0' hy1 hy2 rfl (by decide) _ _ _ rfl ((own_after hB6 hb7).alloc _) ⟨_, 0, none⟩ 1 1 [.int .i64 z] rfl rfl (cells_new _ _ _ _ rfl) (by intro u hu; simp only [List.mem_cons, List.not_mem_nil, or_false] at hu; rcases hu with rfl; rfl) (by unfold maxLen; omega) (by omega) (by have := hbw6.size; have := hb7.size; simp; omega) ?_; intro v8 w8 hown8 hgrow8 hnil8 hat8)
            | go_in)
          have hbw7 := hbw6.trans (hb7.mono hbw6.size)
          go_roundw
          case rel =>
            refine ⟨k + 1, by omega, by go_num, ?_, ?_, (up hbw7 _).grown hgrow8 (by have := hbw7.size; simp; omega) hBl⟩
            · rw [hst.out, if_pos hy, List.length_append, List.map_append]
              exact own_beside ((own_after hown6 hb7).alloc _) ((own_after hB6 hb7).alloc _) (by decide) hgrow8
            · rw [hst.out, if_pos hy, List.length_append, List.map_append]
              simpa [hz] using hown8
          case measure => simp [intOf]; omega
        · obtain rfl : bv = true := by rw [hbv]; simpa using hy0
          go_wp2
          go_roundw
          case rel =>
            refine ⟨k + 1, by omega, by go_num, ?_, ?_, hbw5⟩
            · rw [hst.out, if_neg (by rw [hy]; exact hy0), List.append_nil]; exact hA5
            · rw [hst.out, if_neg (by rw [hy]; exact hy0), List.append_nil]; exact hB5
          case measure => simp [intOf]; omega
    · obtain rfl : k = n := by omega
      rw [List.take_of_length_le (by omega)] at hA hB hlen
      have hmap1 : ((candR G l p R).map fun r => Value.string r.nm) = ((candR G l p R).map (·.nm)).map Value.string := by rw [List.map_map]; rfl
      have hmap2 : ((candR G l p R).map fun r => Value.int .i64 (scR G l mode p r)) = ((candR G l p R).map (scR G l mode p)).map (Value.int .i64) := by rw [List.map_map]; rfl
      rw [hmap1] at hA
      rw [hmap2] at hB
      have l1 : ((candR G l p R).map (·.nm)).length = (candR G l p R).length := List.length_map _
      have l2 : ((candR G l p R).map (scR G l mode p)).length = (candR G l p R).length := List.length_map _
      have hR0 : bestR G l mode p R = if (candR G l p R).length = 0 then none else some (((candR G l p R).map (·.nm)).getD (bstAt ((candR G l p R).map (·.nm)) ((candR G l p R).map (scR G l mode p)) (candR G l p R).length).toNat ByteArray.empty) := by
        unfold bestR
        by_cases h0 : candR G l p R = []
        · rw [if_pos h0, if_pos (by rw [h0]; rfl)]
        · rw [if_neg h0, if_neg (fun h => h0 (List.eq_nil_of_length_eq_zero h))]
      rw [hRS.out] at hR0
      obtain ⟨a9, c9, rfl, hS9, _, _, _⟩ := strs_own hA (by omega)
      obtain ⟨b9, d9, rfl, hI9⟩ := ints_own hB
      rw [l2] at hI9
      simp only [l1, l2]
      generalize (candR G l p R).map (·.nm) = ss at *
      generalize (candR G l p R).map (scR G l mode p) = zs at *
      generalize (candR G l p R).length = m at *
      have kb := best_any a9 b9 c9 d9 m ss zs _ wr hS9 hI9 l1 rfl
      clear hA hB hmap1 hmap2 hN hRE
      by_cases hm0 : m = 0
      · subst hm0
        rw [if_pos rfl] at hR0
        have hR0 : Hid _ := hR0
        have e0 : bstAt ss zs 0 = -1 := rfl
        rw [e0] at kb
        go_wp2_with (go_at_call 286; refine kb.mono ?_; rintro e w9 ⟨rfl, hb9⟩)
        go_ret2
        exact ⟨by rw [hR0.out]; rfl, hbww.trans (hb9.mono hbww.size)⟩
      · rw [if_neg hm0] at hR0
        obtain ⟨j, hj9⟩ : ∃ j : Nat, bstAt ss zs m = j := ⟨(bstAt ss zs m).toNat, by have := bst_ge ss zs m (by omega); omega⟩
        have hjm : j < m := by have := bst_lt ss zs m; omega
        rw [hj9, Int.toNat_natCast] at hR0
        obtain ⟨sj, hsj⟩ : ∃ sj, ss.getD j ByteArray.empty = sj := ⟨_, rfl⟩
        rw [hsj] at hR0
        have hR0 : Hid _ := hR0
        rw [hj9] at kb
        obtain ⟨x, rfl, hx⟩ := hS9.2 j (by omega)
        rw [hsj] at hx
        clear hsj
        have j1 : (j : Int) < m := by omega
        have j2 : ¬ (j : Int) < 0 := by omega
        go_wp2_with (go_at_call 286; refine kb.mono ?_; rintro e w9 ⟨rfl, hb9⟩; have hx := cell_below hb9 hx (block_lt hx))
        go_ret2
        exact ⟨by rw [hR0.out]; rfl, hbww.trans (hb9.mono hbww.size)⟩

/-- In one. -/
theorem pbest_any (L : Nat) (fp : Nat → Prop) (E : List (ByteArray × Rec)) (G : List (Int × Grp)) (hG : G.length ≤ 100) (l : List Pl) (hl : LaidOk G l) (h8 : l.length ≤ 8) (w : World) (hled : Led w L fp E G) (hT : Tab w)
    (g : Nat) (base n c : Nat) (R : List Rec) (hN : Nds w base (some ⟨g, 0, none⟩) R) (hRl : R.length = n) (hn8 : n ≤ 8) (hRE : ∀ r ∈ R, (r.nm.size ≤ maxLen ∧ r.cpu ≤ 1099511627776 ∧ r.mem ≤ 1099511627776) ∧ (∀ s ∈ r.xs, s.size ≤ maxLen) ∧ ∀ s ∈ r.ys, s.size ≤ maxLen)
    (p : PodT) (hp : p.Ok w) (mode : Int) :
    Calls Tryz.prog 273 #[roomV L l, .slice (some ⟨g, 0, none⟩) n c, p.val, .int .i64 mode] w fun e w' => e = .returned (.tuple #[.string ((bestR G l mode p R).getD ByteArray.empty), .bool (bestR G l mode p R).isSome]) ∧ Below w.heap.size w w' := by
  rcases room_used L fp E G hG l hl h8 w hled with h | h
  · exact pbest_0 L fp E G hG l hl h8 w hled hT g base n c R hN hRl hn8 hRE p hp mode h
  · exact pbest_1 L fp E G hG l hl h8 w hled hT g base n c R hN hRl hn8 hRE p hp mode h

end Go.Proofs.YthneemgpifbehaaGreatDoor

/- Package pack: places for all pods, one behind the other. -/
namespace Go.Proofs.YthneemgpifbehaaGreatDoor
open Go.RowKit Go.Maps
set_option linter.unusedSimpArgs false
set_option linter.unusedVariables false

/-- A pod's seven cells lie from here on. -/
def PodAt (w : World) (B o : Nat) (p : PodT) : Prop :=
  w.cell? ⟨B, o, none⟩ = some (.string p.name) ∧ w.cell? ⟨B, o + 1, none⟩ = some (.int .i64 p.shard) ∧ w.cell? ⟨B, o + 2, none⟩ = some (.int .i64 p.cpu) ∧ w.cell? ⟨B, o + 3, none⟩ = some (.int .i64 p.mem) ∧
  w.cell? ⟨B, o + 4, none⟩ = some (.slice p.pa p.ps.length p.pc) ∧ w.cell? ⟨B, o + 5, none⟩ = some (.slice p.ba p.bs.length p.bc) ∧ w.cell? ⟨B, o + 6, none⟩ = some (.bool p.al)
theorem PodAt.later {w w1 : World} {B o : Nat} {p : PodT} (h : PodAt w B o p) (hb : Below w.heap.size w w1) : PodAt w1 B o p := by
  obtain ⟨h0, h1, h2, h3, h4, h5, h6⟩ := h
  have hB := block_lt h0
  exact ⟨cell_below hb h0 hB, cell_below hb h1 hB, cell_below hb h2 hB, cell_below hb h3 hB, cell_below hb h4 hB, cell_below hb h5 hB, cell_below hb h6 hB⟩
/-- A row of pods in memory. -/
def Pods (w : World) (a : Option Addr) (l : List PodT) : Prop :=
  ∀ i p, l[i]? = some p → ∃ B o, a = some ⟨B, o, none⟩ ∧ PodAt w B (o + i * 7) p ∧ p.Ok w
theorem Pods.later {w w1 : World} {a : Option Addr} {l : List PodT} (h : Pods w a l) (hb : Below w.heap.size w w1) : Pods w1 a l := fun i p hp => by
  obtain ⟨B, o, ha, h1, h2⟩ := h i p hp
  exact ⟨B, o, ha, h1.later hb, h2.later hb⟩
theorem NodeAt.later {w w1 : World} {B o : Nat} {r : Rec} (h : NodeAt w B o r) (hb : Below w.heap.size w w1) : NodeAt w1 B o r := by
  obtain ⟨h0, h1, h2, h3, h4, h5⟩ := h
  have hB := block_lt h0
  exact ⟨cell_below hb h0 hB, cell_below hb h1 hB, cell_below hb h2 hB, cell_below hb h3 hB, cell_below hb h4 hB, cell_below hb h5 hB⟩
theorem Nds.later {w w1 : World} {base : Nat} {a : Option Addr} {l : List Rec} (h : Nds w base a l) (hb : Below w.heap.size w w1) : Nds w1 base a l := fun i r hr => by
  obtain ⟨B, ha, h1, h2, h3, h4⟩ := h i r hr
  exact ⟨B, ha, h1, Nat.lt_of_lt_of_le h2 hb.size, h3.later hb, h4.later hb⟩

/-- The place of a pod on a node. -/
def plP (p : PodT) (s : ByteArray) : Pl := ⟨p.name, s, p.cpu, p.mem, p.al⟩
/-- Places for all of them, behind those that are laid, the last one first. -/
def layR (G : List (Int × Grp)) (mode : Int) (R : List Rec) : List Pl → List PodT → Option (List Pl)
  | l, [] => some l
  | l, p :: t => match bestR G l mode p R with
    | none => none
    | some s => layR G mode R (plP p s :: l) t

theorem best_mem {G : List (Int × Grp)} {l : List Pl} {mode : Int} {p : PodT} {R : List Rec} {s : ByteArray} (h : bestR G l mode p R = some s) : ∃ r ∈ R, r.nm = s ∧ whyR G l p r = 0 := by
  unfold bestR at h
  split at h
  · cases h
  · rename_i h0
    simp only [Option.some.injEq] at h
    have hl : 0 < (candR G l p R).length := by
      cases hc : candR G l p R with
      | nil => exact absurd hc h0
      | cons x t => simp
    have hb := bst_lt ((candR G l p R).map (·.nm)) ((candR G l p R).map (scR G l mode p)) (candR G l p R).length
    have hb0 := bst_ge ((candR G l p R).map (·.nm)) ((candR G l p R).map (scR G l mode p)) (candR G l p R).length hl
    obtain ⟨j, hj⟩ : ∃ j : Nat, bstAt ((candR G l p R).map (·.nm)) ((candR G l p R).map (scR G l mode p)) (candR G l p R).length = j := ⟨(bstAt ((candR G l p R).map (·.nm)) ((candR G l p R).map (scR G l mode p)) (candR G l p R).length).toNat, by omega⟩
    rw [hj, Int.toNat_natCast] at h
    have hjl : j < (candR G l p R).length := by omega
    have hm := List.getElem_mem hjl
    have hm2 := List.mem_filter.1 hm
    refine ⟨(candR G l p R)[j], hm2.1, ?_, by simpa using hm2.2⟩
    rw [← h]
    simp [List.getD, List.getElem?_eq_getElem hjl]
theorem LaidOk.add {E : List (ByteArray × Rec)} {G : List (Int × Grp)} (hI : Inv E G) {l : List Pl} (hl : LaidOk G l) {mode : Int} {p : PodT} {R : List Rec} {s : ByteArray} (h : bestR G l mode p R = some s) (hp : 0 ≤ p.cpu ∧ 0 ≤ p.mem) (hR : ∀ r ∈ R, r.cpu ≤ 1099511627776 ∧ r.mem ≤ 1099511627776) : LaidOk G (plP p s :: l) := by
  obtain ⟨r, hr, rfl, hw⟩ := best_mem h
  have hg := good_of_why hw (hl.least hI r.nm) hp (hR r hr)
  obtain ⟨g1, g2, g3, g4, g5, g6, g7, g8⟩ := hg
  refine ⟨hl, hp.1, hp.2, ?_, ?_⟩
  · have e : useC G (plP p r.nm :: l) (plP p r.nm).node = useC G l r.nm + p.cpu := by simp only [useC, sW, plP, if_pos]; omega
    rw [e]; omega
  · have e : useM G (plP p r.nm :: l) (plP p r.nm).node = useM G l r.nm + p.mem := by simp only [useM, sW, plP, if_pos]; omega
    rw [e]; omega

set_option maxRecDepth 100000 in
set_option maxHeartbeats 8000000 in
theorem lay_any (L : Nat) (fp : Nat → Prop) (E : List (ByteArray × Rec)) (G : List (Int × Grp)) (hG : G.length ≤ 100) (w : World) (hled : Led w L fp E G) (hT : Tab w)
    (g : Nat) (base n c : Nat) (R : List Rec) (hN : Nds w base (some ⟨g, 0, none⟩) R) (hRl : R.length = n) (hn8 : n ≤ 8) (hRE : ∀ r ∈ R, (r.nm.size ≤ maxLen ∧ r.cpu ≤ 1099511627776 ∧ r.mem ≤ 1099511627776) ∧ (∀ s ∈ r.xs, s.size ≤ maxLen) ∧ ∀ s ∈ r.ys, s.size ≤ maxLen)
    (pa : Option Addr) (m pc : Nat) (ps : List PodT) (hP : Pods w pa ps) (hpl : ps.length = m) (hm8 : m ≤ 8) (mode : Int) :
    Calls Tryz.prog 241 #[roomV L [], .slice (some ⟨g, 0, none⟩) n c, .slice pa m pc, .int .i64 mode] w fun e w' => ∃ a k c, e = .returned (.tuple #[.slice a k c, .bool (layR G mode R [] ps).isSome]) ∧ k = ((layR G mode R [] ps).getD []).length ∧ Pls w' a ((layR G mode R [] ps).getD []).reverse ∧ SP a ∧ (∀ x, a = some x → w.heap.size ≤ x.block ∧ x.block < w'.heap.size) ∧ Below w.heap.size w w' := by
  obtain ⟨A, hA⟩ : ∃ A, layR G mode R [] ps = A := ⟨_, rfl⟩
  rw [hA]
  have HA : Hid (layR G mode R [] (ps.drop 0) = A) := hA
  clear hA
  go_enter Tryz.func241, Tryz.ntmps241
  go_wp2
  go_loopw [0, 16] (fun r i wr => ∃ (k : Nat) (l : List Pl), k ≤ m ∧ i = .int .i64 k ∧ r = roomV L l ∧ l.length = k ∧ LaidOk G l ∧ Hid (layR G mode R l (ps.drop k) = A) ∧ Below w.heap.size w wr) (fun _ i _ => m - (intOf i).toNat)
  case atStart => exact ⟨0, [], Nat.zero_le _, rfl, rfl, rfl, trivial, HA, Below.refl _ _⟩
  case round =>
    obtain ⟨k, l, hk, rfl, rfl, hlk, hlo, HS, hbw⟩ := hrel
    clear HA
    by_cases hlt : k < m
    · obtain ⟨B, o, rfl, hat, hok⟩ := hP k _ (List.getElem?_eq_getElem (show k < ps.length by omega))
      have hd := List.drop_eq_getElem_cons (show k < ps.length by omega)
      have hatr := hat.later hbw
      have hokr := hok.later hbw
      obtain ⟨p, hp⟩ : ∃ p, ps[k]'(by omega) = p := ⟨ps[k]'(by omega), rfl⟩
      rw [hp] at hd hatr hokr
      have kb := pbest_any L fp E G hG l hlo (by omega) (wr.alloc (.cells #[.string p.name, .int .i64 p.shard, .int .i64 p.cpu, .int .i64 p.mem, .slice p.pa p.ps.length p.pc, .slice p.ba p.bs.length p.bc, .bool p.al] 63)) (hled.later (up hbw _)) (hT.later (up hbw _)) g base n c R (hN.later (up hbw _)) hRl hn8 hRE p (hokr.later (up (Below.refl _ _) _)) mode
      unfold PodT.val at kb
      have HS : Hid (A = match bestR G l mode p R with | none => none | some s => layR G mode R (plP p s :: l) (ps.drop (k + 1))) := by
        show _ = _
        rw [← HS.out, hd]; rfl
      have hadd := fun s h => LaidOk.add hled.1 hlo (mode := mode) (p := p) (R := R) (s := s) h hokr.c (fun r hr => (hRE r hr).1.2)
      obtain ⟨bs, hbs⟩ : ∃ bs, bestR G l mode p R = bs := ⟨_, rfl⟩
      rw [hbs] at kb hadd HS
      obtain ⟨d0, d1, d2, d3, d4, d5, d6⟩ := hatr
      have i1 : (k : Int) < m := by omega
      obtain ⟨TT, VV, hV⟩ : ∃ T V, roomV L l = .iface T V := by cases l <;> exact ⟨_, _, rfl⟩
      have HV : Hid _ := hV
      rw [hV] at kb ⊢
      clear hV hat hok hd hp hbs
      cases bs with
      | none =>
        simp only [Option.getD_none, Option.isSome_none] at kb
        have HA : Hid (A = none) := HS.out
        clear HS
        go_wp2_with (go_at_call 273; refine kb.mono ?_; rintro e w3 ⟨rfl, hb3⟩)
        go_ret2
        rw [HA.out]
        exact ⟨none, 0, 0, rfl, rfl, ⟨by simp, by simp⟩, SP.none, (fun x hx => by cases hx), (up hbw _).trans (hb3.mono (up hbw _).size)⟩
      | some s =>
        simp only [Option.getD_some, Option.isSome_some] at kb
        have HA : Hid (layR G mode R (plP p s :: l) (ps.drop (k + 1)) = A) := HS.out.symm
        clear HS
        have hB1 := Box.new wr #[.string p.name, .int .i64 p.shard, .int .i64 p.cpu, .int .i64 p.mem, .slice p.pa p.ps.length p.pc, .slice p.ba p.bs.length p.bc, .bool p.al] 63 rfl
        have hb1 := up hbw (.cells #[.string p.name, .int .i64 p.shard, .int .i64 p.cpu, .int .i64 p.mem, .slice p.pa p.ps.length p.pc, .slice p.ba p.bs.length p.bc, .bool p.al] 63)
        go_wp2_with (go_at_call 273; refine kb.mono ?_; rintro e w3 ⟨rfl, hb3⟩; obtain ⟨x0, x1, x2, x3, x4, x5, x6⟩ := (hB1.later hb3).cells7)
        go_roundw
        case rel => exact ⟨k + 1, plP p s :: l, by omega, by go_num, by rw [roomV, HV.out]; rfl, by simp [hlk], hadd s rfl, HA, hb1.trans (hb3.mono hb1.size)⟩
        case measure => simp [intOf]; omega
    · obtain rfl : k = m := by omega
      rw [List.drop_of_length_le (by omega)] at HS
      have HA : Hid (A = some l) := HS.out.symm
      have kp := placed_any L l (by omega) wr
      clear HS
      go_wp2_with (go_at_call 274; refine kp.mono ?_; rintro e w3 ⟨v, rfl, hv, hb3⟩)
      obtain ⟨a, c', rfl, hPl, hsp, _, _, hn⟩ := pls_own hv (by simp; omega) (by simp)
      go_ret2
      rw [HA.out]
      exact ⟨a, _, c', rfl, rfl, hPl, hsp, (fun x hx => ⟨Nat.le_trans hbw.size (hn x hx).1, (hn x hx).2⟩), hbw.trans (hb3.mono hbw.size)⟩

end Go.Proofs.YthneemgpifbehaaGreatDoor

/- The contract of Pack. -/
namespace Go.Proofs.YthneemgpifbehaaGreatDoor
open Go.RowKit Go.Maps
set_option linter.unusedSimpArgs false
set_option linter.unusedVariables false

theorem core_parts {r r' : Rec} (h : r.core = r'.core) : r.nm = r'.nm ∧ r.cpu = r'.cpu ∧ r.mem = r'.mem ∧ r.xs = r'.xs ∧ r.ys = r'.ys ∧ r.cl = r'.cl := by
  simp only [Rec.core, Prod.mk.injEq] at h
  exact h
theorem why_core {G : List (Int × Grp)} {l : List Pl} {p : PodT} {r r' : Rec} (h : r.core = r'.core) : whyR G l p r = whyR G l p r' := by
  obtain ⟨h1, h2, h3, h4, h5, h6⟩ := core_parts h
  simp only [whyR, h1, h2, h3, h4, h5, h6]
theorem sc_core {G : List (Int × Grp)} {l : List Pl} {mode : Int} {p : PodT} {r r' : Rec} (h : r.core = r'.core) : scR G l mode p r = scR G l mode p r' := by
  obtain ⟨h1, h2, h3, h4, h5, h6⟩ := core_parts h
  simp only [scR, h1, h2, h3]
theorem cand_map {G : List (Int × Grp)} {l : List Pl} {p : PodT} {β : Type} (f : Rec → β) (hf : ∀ r r', r.core = r'.core → f r = f r') : ∀ {R R' : List Rec}, R.map Rec.core = R'.map Rec.core → (candR G l p R).map f = (candR G l p R').map f
  | [], [], _ => rfl
  | [], _ :: _, h => by simp at h
  | _ :: _, [], h => by simp at h
  | r :: t, r' :: t', h => by
    simp only [List.map_cons, List.cons.injEq] at h
    have ih := cand_map (G := G) (l := l) (p := p) f hf h.2
    have hw := why_core (G := G) (l := l) (p := p) h.1
    unfold candR at ih ⊢
    simp only [List.filter_cons, hw]
    split
    · simp only [List.map_cons, ih, hf r r' h.1]
    · exact ih
def bestOf (ss : List ByteArray) (zs : List Int) : Option ByteArray := if ss = [] then none else some (ss.getD (bstAt ss zs ss.length).toNat ByteArray.empty)
theorem best_of (G : List (Int × Grp)) (l : List Pl) (mode : Int) (p : PodT) (R : List Rec) : bestR G l mode p R = bestOf ((candR G l p R).map (·.nm)) ((candR G l p R).map (scR G l mode p)) := by
  unfold bestR bestOf
  cases h : candR G l p R with
  | nil => simp
  | cons x t => simp
theorem best_core {G : List (Int × Grp)} {l : List Pl} {mode : Int} {p : PodT} {R R' : List Rec} (h : R.map Rec.core = R'.map Rec.core) : bestR G l mode p R = bestR G l mode p R' := by
  rw [best_of, best_of, cand_map (fun r => r.nm) (fun r r' hc => (core_parts hc).1) h, cand_map (scR G l mode p) (fun r r' hc => sc_core hc) h]
theorem lay_core {G : List (Int × Grp)} {mode : Int} {R R' : List Rec} (h : R.map Rec.core = R'.map Rec.core) : ∀ (ps : List PodT) (l : List Pl), layR G mode R l ps = layR G mode R' l ps
  | [], l => rfl
  | p :: t, l => by
    simp only [layR, best_core h]
    cases bestR G l mode p R' with
    | none => rfl
    | some s => exact lay_core h t _

/-- Places that fit, one behind the other. -/
def Fits (G : List (Int × Grp)) (R : List Rec) : List Pl → List Pl → Prop
  | _, [] => True
  | l, q :: t => (∃ r ∈ R, r.nm = q.node ∧ useC G l q.node + q.cpu ≤ r.cpu ∧ useM G l q.node + q.mem ≤ r.mem) ∧ 0 ≤ q.cpu ∧ 0 ≤ q.mem ∧ Fits G R (q :: l) t
theorem lay_fits {E : List (ByteArray × Rec)} {G : List (Int × Grp)} (hI : Inv E G) {mode : Int} {R : List Rec} (hR : ∀ r ∈ R, r.cpu ≤ 1099511627776 ∧ r.mem ≤ 1099511627776) : ∀ {ps : List PodT} {l l' : List Pl}, (∀ p ∈ ps, 0 ≤ p.cpu ∧ 0 ≤ p.mem) → LaidOk G l → layR G mode R l ps = some l' → ∃ qs, l' = qs.reverse ++ l ∧ qs.length = ps.length ∧ Fits G R l qs ∧ ∀ q ∈ qs, ∃ r ∈ R, r.nm = q.node
  | [], l, l', _, _, h => by
    simp only [layR, Option.some.injEq] at h
    exact ⟨[], by simp [h], rfl, trivial, by simp⟩
  | p :: t, l, l', hp, hl, h => by
    simp only [layR] at h
    cases hb : bestR G l mode p R with
    | none => rw [hb] at h; cases h
    | some s =>
      rw [hb] at h
      simp only at h
      have hpc := hp p (by simp)
      obtain ⟨qs, h1, h2, h3, h4⟩ := lay_fits hI hR (fun x hx => hp x (by simp [hx])) (LaidOk.add hI hl hb hpc hR) h
      obtain ⟨r, hr, rfl, hw⟩ := best_mem hb
      obtain ⟨g1, g2, g3, g4, g5, g6, g7, g8⟩ := good_of_why hw (hl.least hI r.nm) hpc (hR r hr)
      refine ⟨plP p r.nm :: qs, by rw [h1]; simp, by simp [h2], ⟨⟨r, hr, rfl, g5, g6⟩, hpc.1, hpc.2, h3⟩, ?_⟩
      intro q hq
      rcases List.mem_cons.1 hq with rfl | hq
      · exact ⟨r, hr, rfl⟩
      · exact h4 q hq
theorem fits_check {E : List (ByteArray × Rec)} {G : List (Int × Grp)} {R : List Rec} (hRE : ∀ r ∈ R, ∃ r', look E r.nm = some r' ∧ r'.core = r.core) : ∀ {qs l : List Pl}, Fits G R l qs → checkF E qs = 0
  | [], _, _ => rfl
  | q :: t, l, ⟨⟨r, hr, hn, _⟩, h1, h2, h3⟩ => by
    obtain ⟨r', hl, _⟩ := hRE r hr
    rw [hn] at hl
    unfold checkF
    rw [hl, if_neg (by simp), if_neg (by simp [h1, h2]), fits_check hRE h3]
theorem fits_with {E : List (ByteArray × Rec)} {G : List (Int × Grp)} {R : List Rec} (hRE : ∀ r ∈ R, ∃ r', look E r.nm = some r' ∧ r'.core = r.core) : ∀ {qs l : List Pl} {A : List (ByteArray × Rec)}, Fits G R l qs →
    (∀ s, (nowR E A s).u = useC G l s ∧ (nowR E A s).m = useM G l s ∧ (nowR E A s).cpu = ((look E s).getD zrec).cpu ∧ (nowR E A s).mem = ((look E s).getD zrec).mem) → withF E A qs ≠ none
  | [], _, A, _, _ => by simp [withF]
  | q :: t, l, A, ⟨⟨r, hr, hn, h4, h5⟩, h1, h2, h3⟩, hA => by
    obtain ⟨r', hl, hc⟩ := hRE r hr
    rw [hn] at hl
    obtain ⟨a1, a2, a3, a4⟩ := hA q.node
    rw [hl, Option.getD_some] at a3 a4
    obtain ⟨_, c2, c3, _⟩ := core_parts hc
    unfold withF
    rw [if_pos (by rw [a1, a2, a3, a4, c2, c3]; exact ⟨h4, h5⟩)]
    refine fits_with hRE h3 fun s => ?_
    obtain ⟨b1, b2, b3, b4⟩ := hA s
    by_cases e : q.node = s
    · subst e
      have en : nowR E (put sK A q.node ((nowR E A q.node).plus q)) q.node = (nowR E A q.node).plus q := by
        unfold nowR
        rw [look_put, if_pos rfl]
        rfl
      rw [en]
      refine ⟨?_, ?_, b3, b4⟩
      · show (nowR E A q.node).u + q.cpu = _
        rw [b1]; simp only [useC, sW, if_pos]; omega
      · show (nowR E A q.node).m + q.mem = _
        rw [b2]; simp only [useM, sW, if_pos]; omega
    · have en : nowR E (put sK A q.node ((nowR E A q.node).plus q)) s = nowR E A s := by
        unfold nowR
        rw [look_put, if_neg (fun h => e h.symm)]
      rw [en]
      refine ⟨?_, ?_, b3, b4⟩
      · rw [b1]; simp only [useC, sW, if_neg e]; omega
      · rw [b2]; simp only [useM, sW, if_neg e]; omega

/-- What Pack answers; the places. -/
def packE (E : List (ByteArray × Rec)) (G : List (Int × Grp)) (g mode : Int) (ps : List PodT) : Int :=
  if ((look G g).getD zgrp).ps ≠ [] then 4 else if ps = [] then 3 else if layR G mode (E.map (·.2)) [] ps = none then 6 else 0
def packL (E : List (ByteArray × Rec)) (G : List (Int × Grp)) (mode : Int) (ps : List PodT) : List Pl := ((layR G mode (E.map (·.2)) [] ps).getD []).reverse
/-- What Pack leaves. -/
def PackPost (w : World) (L : Nat) (fp : Nat → Prop) (E : List (ByteArray × Rec)) (G : List (Int × Grp)) (g mode : Int) (ps : List PodT) (A : Int) (e : Ending) (w' : World) : Prop :=
  (A ≠ 0 ∧ e = .returned (.tuple #[.slice none 0 0, .int .i64 A]) ∧ Below w.heap.size w w') ∨
  (A = 0 ∧ ∃ a c fp' E' a' c', e = .returned (.tuple #[.slice a (packL E G mode ps).length c, .int .i64 0]) ∧ Pls w' a (packL E G mode ps) ∧ SP a ∧ (∀ x, a = some x → w.heap.size ≤ x.block ∧ x.block < w'.heap.size ∧ ¬ fp' x.block) ∧
    Led w' L fp' E' (put iK G g ⟨a', c', packL E G mode ps⟩) ∧ E'.map (·.1) = E.map (·.1) ∧ E'.map (fun e => e.2.core) = E.map (fun e => e.2.core) ∧ Turn w w' fp fp')

theorem pack_take {E : List (ByteArray × Rec)} {G : List (Int × Grp)} (hI : Inv E G) {g mode : Int} {ps : List PodT} (hp : ∀ p ∈ ps, 0 ≤ p.cpu ∧ 0 ≤ p.mem) (hgn : look G g = none) (hne : ps ≠ []) (hl : layR G mode (E.map (·.2)) [] ps ≠ none) :
    takeE E G g (packL E G mode ps) = 0 ∧ (packL E G mode ps).length = ps.length ∧ ∀ q ∈ packL E G mode ps, q.node.size ≤ maxLen := by
  obtain ⟨l', hl'⟩ := Option.ne_none_iff_exists'.1 hl
  have hR : ∀ r ∈ E.map (·.2), r.cpu ≤ 1099511627776 ∧ r.mem ≤ 1099511627776 := fun r hr => by
    obtain ⟨e, he, rfl⟩ := List.mem_map.1 hr
    have := hI.cap e he
    exact ⟨this.2.1, this.2.2.2⟩
  have hRE : ∀ r ∈ E.map (·.2), ∃ r', look E r.nm = some r' ∧ r'.core = r.core := fun r hr => by
    obtain ⟨e, he, rfl⟩ := List.mem_map.1 hr
    rw [(hI.named e he).1]
    exact ⟨e.2, look_of_mem hI.apE he, rfl⟩
  obtain ⟨qs, h1, h2, h3, h4⟩ := lay_fits hI hR hp (show LaidOk G [] from trivial) hl'
  have e1 : packL E G mode ps = qs := by
    unfold packL
    rw [hl', Option.getD_some, h1]; simp
  rw [e1]
  have hq : qs ≠ [] := fun h => hne (List.eq_nil_of_length_eq_zero (by rw [← h2, h]; rfl))
  have hc := fits_check hRE h3
  have hw := fits_with hRE h3 (A := []) (fun s => by
    have e : nowR E [] s = (look E s).getD zrec := rfl
    have hu := hI.used s
    rw [e]
    refine ⟨?_, ?_, rfl, rfl⟩
    · rw [hu.1]; simp [useC, sW]
    · rw [hu.2.1]; simp [useM, sW])
  refine ⟨?_, h2, fun q hq => ?_⟩
  · unfold takeE
    rw [hgn, hc]
    simp [hq, hw]
  · obtain ⟨r, hr, hn⟩ := h4 q hq
    obtain ⟨e, he, rfl⟩ := List.mem_map.1 hr
    rw [← hn, (hI.named e he).1]
    exact (hI.named e he).2

set_option maxRecDepth 100000 in
set_option maxHeartbeats 8000000 in
theorem pack_any (w : World) (L : Nat) (fp : Nat → Prop) (E : List (ByteArray × Rec)) (G : List (Int × Grp)) (hG : G.length ≤ 100) (hled : Led w L fp E G) (hT : Tab w) (g : Int) (hg : (Lit.int .i64 g).wf = true) (hne : ∀ r, look G g = some r → r.ps ≠ [])
    (pa : Option Addr) (m pc : Nat) (ps : List PodT) (hP : Pods w pa ps) (hpl : ps.length = m) (hm8 : m ≤ 8) (mode : Int) :
    Calls Tryz.prog 193 #[.pointer (some ⟨L, 0, none⟩), .int .i64 g, .slice pa m pc, .int .i64 mode] w fun e w' => PackPost w L fp E G g mode ps (packE E G g mode ps) e w' := by
  obtain ⟨A, hA⟩ : ∃ A, packE E G g mode ps = A := ⟨_, rfl⟩
  rw [hA]
  unfold packE at hA
  obtain ⟨n0, hn0⟩ : ∃ n0, ((look G g).getD zgrp).ps.length = n0 := ⟨_, rfl⟩
  have kp := placesL w L fp E G hled g hg _ n0 rfl hn0
  by_cases h1 : ((look G g).getD zgrp).ps ≠ []
  · rw [if_pos h1] at hA
    subst hA
    have i0 : (0 : Int) < n0 := by
      cases hh : ((look G g).getD zgrp).ps with
      | nil => exact absurd hh h1
      | cons x t => rw [hh] at hn0; simp at hn0; omega
    clear h1
    go_enter Tryz.func193, Tryz.ntmps193
    go_wp2_with (go_at_call 68; refine kp.mono ?_; rintro e w1 ⟨a1, c1, rfl, _, _, _, _, hb1⟩)
    go_ret2
    exact .inl ⟨by decide, rfl, hb1⟩
  · rw [if_neg h1] at hA
    have h1 : ((look G g).getD zgrp).ps = [] := by simpa using h1
    rw [h1] at hn0
    obtain rfl : n0 = 0 := by simpa using hn0.symm
    have hgn : look G g = none := by
      cases hl : look G g with
      | none => rfl
      | some r => rw [hl] at h1; exact absurd h1 (hne r hl)
    by_cases h2 : ps = []
    · rw [if_pos h2] at hA
      subst hA h2
      obtain rfl : m = 0 := by simpa using hpl.symm
      go_enter Tryz.func193, Tryz.ntmps193
      go_wp2_with (go_at_call 68; refine kp.mono ?_; rintro e w1 ⟨a1, c1, rfl, _, _, _, _, hb1⟩)
      go_ret2
      exact .inl ⟨by decide, rfl, hb1⟩
    · rw [if_neg h2] at hA
      have hm0 : ¬ m = 0 := fun h => h2 (List.eq_nil_of_length_eq_zero (by omega))
      have hm8' : ¬ (8 : Int) < m := by omega
      have hmb : ((m : Int) == 0) = false := by simp; omega
      have hpo : ∀ p ∈ ps, 0 ≤ p.cpu ∧ 0 ≤ p.mem := fun p hp => by
        obtain ⟨i, hi⟩ := List.mem_iff_getElem?.1 hp
        obtain ⟨_, _, _, _, hok⟩ := hP i p hi
        exact hok.c
      go_enter Tryz.func193, Tryz.ntmps193
      go_upto_region 5 with (go_at_call 68; refine kp.mono ?_; rintro e w1 ⟨a1, c1, rfl, _, _, _, _, hb1⟩)
      have kn := nodesL w1 L fp E G (hled.later hb1)
      have hlay : ∀ (w2 : World) (gN cN : Nat) (R : List Rec), Below w1.heap.size w1 w2 → Nds w2 w1.heap.size (some ⟨gN, 0, none⟩) R → R.map Rec.core = E.map (fun e => e.2.core) → _ := fun w2 gN cN R hb2 hN hc =>
        lay_any L fp E G hG w2 ((hled.later hb1).later hb2) ((hT.later hb1).later hb2) gN w1.heap.size E.length cN R hN (by have := congrArg List.length hc; simpa using this) hled.1.lenE (fun r hr => by
          obtain ⟨i, hi⟩ := List.mem_iff_getElem?.1 hr
          have hi2 : (R.map Rec.core)[i]? = some r.core := by simp [hi]
          rw [hc] at hi2
          simp only [List.getElem?_map] at hi2
          cases hE : E[i]? with
          | none => rw [hE] at hi2; cases hi2
          | some e =>
            rw [hE] at hi2
            simp only [Option.map_some, Option.some.injEq] at hi2
            have he := List.mem_of_getElem? hE
            obtain ⟨q1, q2, q3, q4, q5, q6⟩ := core_parts hi2
            have n1 := hled.1.named e he
            have n2 := hled.1.cap e he
            have n3 := hled.1.marks e he
            rw [← q1, ← q2, ← q3, ← q4, ← q5, n1.1]
            exact ⟨⟨n1.2, n2.2.1, n2.2.2.2⟩, n3⟩) pa m pc ps ((hP.later hb1).later hb2) hpl hm8 mode
      have hcc : ∀ (R : List Rec), R.map Rec.core = E.map (fun e => e.2.core) → layR G mode R [] ps = layR G mode (E.map (·.2)) [] ps := fun R hc => lay_core (by rw [hc, List.map_map]; rfl) ps []
      unfold roomV at hlay
      by_cases h3 : layR G mode (E.map (·.2)) [] ps = none
      · rw [if_pos h3] at hA
        subst hA
        clear kp h1 hgn
        go_wp2_with (first
          | (go_at_call 95; refine kn.mono ?_; rintro e w2 ⟨gN, cN, R, rfl, hN2, hc2, _, hb2⟩; have kl := hlay w2 gN cN R hb2 hN2 hc2; rw [hcc R hc2, h3] at kl)
          | (go_at_call 241; refine kl.mono ?_; rintro e w3 ⟨a3, k3, c3, rfl, _, _, _, _, hb3⟩))
        go_ret2
        exact .inl ⟨by decide, rfl, (hb1.trans (hb2.mono hb1.size)).trans (hb3.mono (hb1.trans (hb2.mono hb1.size)).size)⟩
      · rw [if_neg h3] at hA
        subst hA
        obtain ⟨t1, t2, t3⟩ := pack_take hled.1 (mode := mode) hpo hgn h2 h3
        obtain ⟨l', hl'⟩ := Option.ne_none_iff_exists'.1 h3
        obtain ⟨PL, hPL⟩ : ∃ PL, packL E G mode ps = PL := ⟨_, rfl⟩
        have hpk' : l'.reverse = PL := by rw [← hPL]; unfold packL; rw [hl']; rfl
        rw [hPL] at t1 t2 t3
        obtain ⟨N, hN⟩ : ∃ N, PL.length = N := ⟨_, rfl⟩
        have hll : l'.length = N := by rw [← hN, ← hpk']; simp
        have hlay2 : ∀ (w2 : World) (gN cN : Nat) (R : List Rec), Below w1.heap.size w1 w2 → Nds w2 w1.heap.size (some ⟨gN, 0, none⟩) R → R.map Rec.core = E.map (fun e => e.2.core) →
            Calls Tryz.prog 241 #[.iface 87 (.pointer (some ⟨L, 0, none⟩)), .slice (some ⟨gN, 0, none⟩) E.length cN, .slice pa m pc, .int .i64 mode] w2 fun e w' => ∃ a c, e = .returned (.tuple #[.slice a N c, .bool true]) ∧ Pls w' a PL ∧ SP a ∧ (∀ x, a = some x → w2.heap.size ≤ x.block ∧ x.block < w'.heap.size) ∧ Below w2.heap.size w2 w' := fun w2 gN cN R h1 h2 h3 => by
          have kl := hlay w2 gN cN R h1 h2 h3
          rw [hcc R h3, hl', Option.isSome_some, Option.getD_some, hpk'] at kl
          exact kl.mono fun e w' ⟨a, k, c, e1, e2, e3⟩ => ⟨a, c, by rw [e1, e2, hll], e3⟩
        have HT : Hid (takeE E G g PL = 0 ∧ (∀ q ∈ PL, q.node.size ≤ maxLen) ∧ PL.length = N ∧ N ≤ 8) := ⟨t1, t3, hN, by omega⟩
        have HP : Hid (packL E G mode ps = PL) := hPL
        have hmi : (m : Int) ≤ 8 := by omega
        clear kp h1 h2 h3 t1 t2 t3 hN hll hpk' hl' hPL hlay hcc hpo hgn hP hpl hn0 hT hne
        go_upto_region 8 with (first
          | (go_at_call 95; refine kn.mono ?_; rintro e w2 ⟨gN, cN, R, rfl, hN2, hc2, _, hb2⟩; have kl := hlay2 w2 gN cN R hb2 hN2 hc2; clear hN2 hc2)
          | (go_at_call 241; refine kl.mono ?_; rintro e w3 ⟨a3, c3, rfl, hP3, hs3, hn3, hb3⟩))
        have hb23 := hb1.trans (hb2.mono hb1.size)
        have hbw3 := hb23.trans (hb3.mono hb23.size)
        have hled3 := hled.later hbw3
        have hna : ∀ x, a3 = some x → w.heap.size ≤ x.block ∧ x.block < w3.heap.size ∧ ¬ fp x.block := fun x hx => by
          have h := hn3 x hx
          have hz := hb23.size
          exact ⟨by omega, h.2, fun hf => by have := hled.lt _ hf; omega⟩
        have kt := takeL w3 L fp E G hled3 g hg a3 N c3 PL hP3 HT.out.2.2.1 hs3 HT.out.2.1 (fun x hx _ => (hna x hx).2.2) (by have := HT.out; omega) (by omega)
        rw [HT.out.1] at kt
        have HN : Hid (∀ x, a3 = some x → w.heap.size ≤ x.block ∧ x.block < w3.heap.size ∧ ¬ fp x.block) := hna
        clear hlay2 kn kl hna hn3
        go_wp2_with (go_at_call 111; refine kt.mono ?_; rintro e w4 ⟨rfl, fp', E', G', a', c', hL4, hG4, hk4, hc4, hT4⟩; replace hG4 : Hid _ := hG4; replace hk4 : Hid _ := hk4; replace hc4 : Hid _ := hc4)
        go_ret2
        have hna := HN.out
        have hG4 := hG4.out
        simp only [if_true] at hG4
        subst hG4
        refine .inr ⟨rfl, a3, c3, fp', E', a', c', by rw [HP.out, HT.out.2.2.1]; rfl, by rw [HP.out]; exact hP3.frame fun x hx _ => hT4.kept.block _ (hna x hx).2.1 (hna x hx).2.2, hs3, fun x hx => ⟨(hna x hx).1, Nat.lt_of_lt_of_le (hna x hx).2.1 hT4.kept.size, fun hf => ?_⟩, by rw [HP.out]; exact hL4, hk4.out, hc4.out, ⟨hT4.more, fun b hb => (hT4.new b hb).imp id (fun h => Nat.le_trans hbw3.size h), (Kept.of_below hbw3).trans hT4.kept⟩⟩
        rcases hT4.new _ hf with h | h
        · exact (hna x hx).2.2 h
        · have := (hna x hx).2.1; omega

end Go.Proofs.YthneemgpifbehaaGreatDoor

/- One pod on one node. -/
namespace Go.Proofs.YthneemgpifbehaaGreatDoor
open Go.RowKit Go.Maps
set_option linter.unusedSimpArgs false
set_option linter.unusedVariables false

/-- The name of the one node. -/
abbrev nB : ByteArray := ⟨#[110]⟩
theorem nB_small : nB.size ≤ maxLen := by decide
theorem node_one (cpu mem : Int) (hc : 0 ≤ cpu ∧ cpu ≤ 1099511627776) (hm : 0 ≤ mem ∧ mem ≤ 1099511627776) : nodeE nB cpu mem [] [] = 0 := by
  have e1 : isName nB = true := by decide +kernel
  have e2 : sizeB cpu mem = true := by unfold sizeB; simp; omega
  have e3 : setB [] = true := rfl
  unfold nodeE askE
  rw [e1, e2, e3]; rfl
/-- A pod that needs so much, and nothing else. -/
def pod1 (nm : ByteArray) (cpu mem : Int) (al : Bool) : PodT := ⟨nm, 1, cpu, mem, none, 0, [], none, 0, [], al⟩
theorem pod1_ok (w : World) (nm : ByteArray) (cpu mem : Int) (al : Bool) (h : 0 ≤ cpu ∧ 0 ≤ mem) : (pod1 nm cpu mem al).Ok w := ⟨⟨by simp [pod1], by simp [pod1]⟩, ⟨by simp [pod1], by simp [pod1]⟩, by simp [pod1], by simp [pod1], h⟩
theorem best_one {G : List (Int × Grp)} {mode : Int} {nm : ByteArray} {cpu mem c m : Int} {r : Rec} (hr : r.core = (nB, c, m, [], [], false)) :
    bestR G [] mode (pod1 nm cpu mem false) [r] = if useC G [] nB + cpu ≤ c ∧ useM G [] nB + mem ≤ m ∧ useC G [] nB + cpu ≤ 9223372036854775807 ∧ useM G [] nB + mem ≤ 9223372036854775807 then some nB else none := by
  obtain ⟨h1, h2, h3, h4, h5, h6⟩ : r.nm = nB ∧ r.cpu = c ∧ r.mem = m ∧ r.xs = [] ∧ r.ys = [] ∧ r.cl = false := by simpa [Rec.core] using hr
  have hw : whyR G [] (pod1 nm cpu mem false) r = if useC G [] nB + cpu ≤ c ∧ useM G [] nB + mem ≤ m ∧ useC G [] nB + cpu ≤ 9223372036854775807 ∧ useM G [] nB + mem ≤ 9223372036854775807 then 0 else 4 := by
    simp only [whyR, pod1, h1, h2, h3, h4, h5, h6, whyN, roomB, onB]
    by_cases hf : useC G [] nB + cpu ≤ c ∧ useM G [] nB + mem ≤ m ∧ useC G [] nB + cpu ≤ 9223372036854775807 ∧ useM G [] nB + mem ≤ 9223372036854775807
    · rw [if_pos hf]
      have : (useC G [] nB + cpu ≤ 9223372036854775807 ∧ useM G [] nB + mem ≤ 9223372036854775807 ∧ useC G [] nB + cpu ≤ c ∧ useM G [] nB + mem ≤ m) := by omega
      simp [this, allB]
    · rw [if_neg hf]
      have : ¬ (useC G [] nB + cpu ≤ 9223372036854775807 ∧ useM G [] nB + mem ≤ 9223372036854775807 ∧ useC G [] nB + cpu ≤ c ∧ useM G [] nB + mem ≤ m) := by omega
      simp [this, allB]
  unfold bestR candR
  by_cases hf : useC G [] nB + cpu ≤ c ∧ useM G [] nB + mem ≤ m ∧ useC G [] nB + cpu ≤ 9223372036854775807 ∧ useM G [] nB + mem ≤ 9223372036854775807
  · rw [if_pos hf] at hw ⊢
    simp [hw, bstAt, h1]
  · rw [if_neg hf] at hw ⊢
    simp [hw]

end Go.Proofs.YthneemgpifbehaaGreatDoor
