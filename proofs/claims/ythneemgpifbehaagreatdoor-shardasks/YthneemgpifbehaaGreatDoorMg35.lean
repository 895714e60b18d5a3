/- The contracts of Why of package fit, and of the chapter's own. -/
import Derived.Test.YthneemgpifbehaaGreatDoorMg34
import Derived.Test.YthneemgpifbehaaGreatDoorMg21
import Derived.WalkMore
import Derived.ScopeJumps
namespace Go.Proofs.YthneemgpifbehaaGreatDoor
open Go.RowKit Go.Maps

/-- A place: its texts and numbers. -/
structure PlaceT where
  pod : ByteArray
  node : ByteArray
  cpu : Int
  mem : Int
  al : Bool

/-- Its five cells lie from here on. -/
def PlaceAt (w : World) (B o : Nat) (p : PlaceT) : Prop :=
  w.cell? ⟨B, o, none⟩ = some (.string p.pod) ∧ w.cell? ⟨B, o + 1, none⟩ = some (.string p.node) ∧ w.cell? ⟨B, o + 2, none⟩ = some (.int .i64 p.cpu) ∧ w.cell? ⟨B, o + 3, none⟩ = some (.int .i64 p.mem) ∧ w.cell? ⟨B, o + 4, none⟩ = some (.bool p.al)

theorem PlaceAt.later {w w1 : World} {B o : Nat} {p : PlaceT} (h : PlaceAt w B o p) (hb : Below w.heap.size w w1) : PlaceAt w1 B o p := by
  obtain ⟨h0, h1, h2, h3, h4⟩ := h
  have hB := block_lt h0
  exact ⟨cell_below hb h0 hB, cell_below hb h1 hB, cell_below hb h2 hB, cell_below hb h3 hB, cell_below hb h4 hB⟩

/-- A row of places in memory. -/
def Places (w : World) (a : Option Addr) (l : List PlaceT) : Prop :=
  l.length ≤ 1000 ∧ ∀ i p, l[i]? = some p → ∃ B o, a = some ⟨B, o, none⟩ ∧ PlaceAt w B (o + i * 5) p

theorem Places.later {w w1 : World} {a : Option Addr} {l : List PlaceT} (h : Places w a l) (hb : Below w.heap.size w w1) : Places w1 a l :=
  ⟨h.1, fun i p hp => by
    obtain ⟨B, o, ha, h1⟩ := h.2 i p hp
    exact ⟨B, o, ha, h1.later hb⟩⟩
theorem places_nil (w : World) : Places w none [] := ⟨by simp, fun i p hp => by simp at hp⟩

/-- Why not: closed; marks; taints; room; alone; beside. -/
def whyN (cl a1 a2 rm al : Bool) (l : List PlaceT) : Int :=
  if cl then 1 else if !a1 then 2 else if !a2 then 3 else if !rm then 4 else if al && decide (0 < l.length) then 5 else if l.any (·.al) then 6 else 0

/-- The three blocks that a call makes of what it is handed. -/
structure Three (w : World) (B : Nat) (s : ByteArray) (sh cpu mem : Int) (p1 p2 : Value) (al : Bool) (t : ByteArray) (cc cm : Int) (n1 n2 : Value) (cl : Bool) (u v : Int) : Prop where
  pod : w.heap[B]? = some (.cells #[.string s, .int .i64 sh, .int .i64 cpu, .int .i64 mem, p1, p2, .bool al] 63 (0, 0))
  node : w.heap[B + 1]? = some (.cells #[.string t, .int .i64 cc, .int .i64 cm, n1, n2, .bool cl] 55 (0, 0))
  used : w.heap[B + 1 + 1]? = some (.cells #[.int .i64 u, .int .i64 v] 52 (0, 0))

section
variable {w w' : World} {B : Nat} {s : ByteArray} {sh cpu mem : Int} {p1 p2 : Value} {al : Bool} {t : ByteArray} {cc cm : Int} {n1 n2 : Value} {cl : Bool} {u v : Int}
theorem Three.later (h : Three w B s sh cpu mem p1 p2 al t cc cm n1 n2 cl u v) (hb : Below w.heap.size w w') : Three w' B s sh cpu mem p1 p2 al t cc cm n1 n2 cl u v := by
  obtain ⟨h1, h2, h3⟩ := h
  have l1 := (Array.getElem?_eq_some_iff.1 h1).1
  have l2 := (Array.getElem?_eq_some_iff.1 h2).1
  have l3 := (Array.getElem?_eq_some_iff.1 h3).1
  exact ⟨by rw [hb.block _ l1, h1], by rw [hb.block _ l2, h2], by rw [hb.block _ l3, h3]⟩
theorem Three.cells (h : Three w B s sh cpu mem p1 p2 al t cc cm n1 n2 cl u v) :
    w.cell? ⟨B, 2, none⟩ = some (.int .i64 cpu) ∧ w.cell? ⟨B, 3, none⟩ = some (.int .i64 mem) ∧ w.cell? ⟨B, 4, none⟩ = some p1 ∧ w.cell? ⟨B, 5, none⟩ = some p2 ∧ w.cell? ⟨B, 6, none⟩ = some (.bool al) ∧
    w.cell? ⟨B + 1, 1, none⟩ = some (.int .i64 cc) ∧ w.cell? ⟨B + 1, 2, none⟩ = some (.int .i64 cm) ∧ w.cell? ⟨B + 1, 3, none⟩ = some n1 ∧ w.cell? ⟨B + 1, 4, none⟩ = some n2 ∧ w.cell? ⟨B + 1, 5, none⟩ = some (.bool cl) ∧
    w.cell? ⟨B + 1 + 1, 0, none⟩ = some (.int .i64 u) ∧ w.cell? ⟨B + 1 + 1, 1, none⟩ = some (.int .i64 v) := by
  obtain ⟨h1, h2, h3⟩ := h
  simp [World.cell?, h1, h2, h3]
theorem Three.keep {W W' : World} {b : Nat} {o : Obj} (h : W.heap[b]? = some o) (hb : Below W.heap.size W W') : W'.heap[b]? = some o := by
  rw [hb.block _ (Array.getElem?_eq_some_iff.1 h).1, h]
theorem three_new (w : World) (s : ByteArray) (sh cpu mem : Int) (p1 p2 : Value) (al : Bool) (t : ByteArray) (cc cm : Int) (n1 n2 : Value) (cl : Bool) (u v : Int) :
    Three (((w.alloc (.cells #[.string s, .int .i64 sh, .int .i64 cpu, .int .i64 mem, p1, p2, .bool al] 63)).alloc (.cells #[.string t, .int .i64 cc, .int .i64 cm, n1, n2, .bool cl] 55)).alloc (.cells #[.int .i64 u, .int .i64 v] 52)) w.heap.size s sh cpu mem p1 p2 al t cc cm n1 n2 cl u v :=
  ⟨(Three.keep (heap_alloc_new w _) (((Below.refl _ _).alloc (Nat.le_refl _) _).alloc (by simp) _)), by
    have h := heap_alloc_new (w.alloc (.cells #[.string s, .int .i64 sh, .int .i64 cpu, .int .i64 mem, p1, p2, .bool al] 63)) (.cells #[.string t, .int .i64 cc, .int .i64 cm, n1, n2, .bool cl] 55)
    rw [show (w.alloc (.cells #[.string s, .int .i64 sh, .int .i64 cpu, .int .i64 mem, p1, p2, .bool al] 63)).heap.size = w.heap.size + 1 by simp] at h
    exact Three.keep h ((Below.refl _ _).alloc (Nat.le_refl _) _), by
    have h := heap_alloc_new ((w.alloc (.cells #[.string s, .int .i64 sh, .int .i64 cpu, .int .i64 mem, p1, p2, .bool al] 63)).alloc (.cells #[.string t, .int .i64 cc, .int .i64 cm, n1, n2, .bool cl] 55)) (.cells #[.int .i64 u, .int .i64 v] 52)
    rw [show ((w.alloc (.cells #[.string s, .int .i64 sh, .int .i64 cpu, .int .i64 mem, p1, p2, .bool al] 63)).alloc (.cells #[.string t, .int .i64 cc, .int .i64 cm, n1, n2, .bool cl] 55)).heap.size = w.heap.size + 1 + 1 by simp] at h
    exact h⟩
end

theorem jump_ret {l : Nat} {J : Act → World → Prop} {Q : Exit → Act → World → Prop} {a : Act} {w : World} : Exit.jump l J Q .ret a w = Q .ret a w := rfl

theorem any_take {l : List PlaceT} {k : Nat} (h : k < l.length) : (l.take (k + 1)).any (·.al) = ((l.take k).any (·.al) || l[k].al) := by
  rw [List.take_succ_eq_append_getElem h, List.any_append]; simp

set_option maxRecDepth 100000 in
set_option maxHeartbeats 4000000 in
theorem why_any (s : ByteArray) (sh cpu mem : Int) (pa : Option Addr) (pn pc : Nat) (ba : Option Addr) (bn bc : Nat) (al : Bool) (t : ByteArray) (cc cm : Int) (ma : Option Addr) (mn mc : Nat) (ta : Option Addr) (tn tc : Nat) (cl : Bool) (u v : Int) (la : Option Addr) (ln lc : Nat)
    (ps bs ms ts : List ByteArray) (l : List PlaceT) (a1 a2 rm : Bool) (w : World) (hpn : ps.length = pn) (hbn : bs.length = bn) (hmn : ms.length = mn) (htn : ts.length = tn) (hln : l.length = ln)
    (hp : Strs w pa ps) (hb : Strs w ba bs) (hm : Strs w ma ms) (ht : Strs w ta ts) (hl : Places w la l)
    (zp : ∀ i, (ps.getD i ByteArray.empty).size ≤ maxLen) (zb : ∀ i, (bs.getD i ByteArray.empty).size ≤ maxLen) (zm : ∀ i, (ms.getD i ByteArray.empty).size ≤ maxLen) (zt : ∀ i, (ts.getD i ByteArray.empty).size ≤ maxLen)
    (hx : 0 ≤ cpu ∧ 0 ≤ mem ∧ 0 ≤ u ∧ 0 ≤ v) (hy : u ≤ 9223372036854775807 ∧ v ≤ 9223372036854775807) (h1 : allB ps ms = a1) (h2 : allB ts bs = a2) (h3 : roomB u v cpu mem cc cm = rm) :
    Calls Tryz.prog 283 #[.agg #[.string s, .int .i64 sh, .int .i64 cpu, .int .i64 mem, .slice pa pn pc, .slice ba bn bc, .bool al], .agg #[.string t, .int .i64 cc, .int .i64 cm, .slice ma mn mc, .slice ta tn tc, .bool cl], .agg #[.int .i64 u, .int .i64 v], .slice la ln lc] w
      fun e w' => e = .returned (.int .i64 (whyN cl a1 a2 rm al l)) ∧ Below w.heap.size w w' := by
  have hT := three_new w s sh cpu mem (.slice pa pn pc) (.slice ba bn bc) al t cc cm (.slice ma mn mc) (.slice ta tn tc) cl u v
  have hW : Below w.heap.size w (((w.alloc (.cells #[.string s, .int .i64 sh, .int .i64 cpu, .int .i64 mem, .slice pa pn pc, .slice ba bn bc, .bool al] 63)).alloc (.cells #[.string t, .int .i64 cc, .int .i64 cm, .slice ma mn mc, .slice ta tn tc, .bool cl] 55)).alloc (.cells #[.int .i64 u, .int .i64 v] 52)) := up (up (up (Below.refl _ _) _) _) _
  have k1 := fun W (hB : Below w.heap.size w W) => all_any pa pc ps ma mc ms W (hp.later hB) (hm.later hB) zp zm
  have k2 := fun W (hB : Below w.heap.size w W) => all_any ta tc ts ba bc bs W (ht.later hB) (hb.later hB) zt zb
  have k3 := fun W => room_any rm cpu mem u v cc cm hx hy h3 W
  have hlw := fun W (hB : Below w.heap.size w W) => hl.later hB
  have hll := hl.1
  rw [hpn, hmn, h1] at k1
  rw [htn, hbn, h2] at k2
  clear hp hb hm ht zp zb zm zt hx hy h1 h2 h3 hpn hbn hmn htn hl
  obtain ⟨R, hR⟩ : ∃ R, whyN cl a1 a2 rm al l = R := ⟨_, rfl⟩
  rw [hR]
  go_enter Tryz.func283, Tryz.ntmps283
  go_wp2
  refine wp_scope_jumps 0 (fun a' w' => a'.tmps.size = 50 ∧ a'.defers = [] ∧ sl a' 9 = .int .i64 R ∧ Below w.heap.size w w') (fun _ _ => 0) rfl ?_ ?_
  case refine_2 =>
    clear k1 k2 k3 hlw hT hW hR
    rintro b w1 ⟨hsz, hdf, f9, hb1⟩
    have hB : b = _ := act_list b hsz hdf
    rw [hB]
    simp only [List.range, List.range.loop, List.map_cons, List.map_nil, f9]
    go_wp2
    rw [jump_ret]
    go_ret
    exact ⟨rfl, hb1⟩
  cases cl
  case true =>
    clear k1 k2 k3
    go_wp2
    go_step3
    exact ⟨rfl, rfl, rfl, by rw [← hR]; rfl, hW⟩
  cases a1
  case false =>
    clear k2 k3
    go_wp2_with (go_at_call 292; refine (k1 _ hW).mono ?_; rintro e w1 ⟨rfl, hb1⟩)
    go_step3
    exact ⟨rfl, rfl, rfl, by rw [← hR]; rfl, hW.trans (hb1.mono hW.size)⟩
  cases a2
  case false =>
    clear k3
    go_wp2_with (first
      | (go_at_call_of 292 (Value.slice pa pn pc); refine (k1 _ hW).mono ?_; rintro e w1 ⟨rfl, hb1⟩
         have hW1 := hW.trans (hb1.mono hW.size)
         obtain ⟨c0, c1, c2, c3, c4, c5, c6, c7, c8, c9, c10, c11⟩ := (hT.later hb1).cells)
      | (go_at_call_of 292 (Value.slice ta tn tc); refine (k2 _ hW1).mono ?_; rintro e w2 ⟨rfl, hb2⟩))
    go_step3
    exact ⟨rfl, rfl, rfl, by rw [← hR]; rfl, hW1.trans (hb2.mono hW1.size)⟩
  cases rm
  case false =>
    go_wp2_with (first
      | (go_at_call_of 292 (Value.slice pa pn pc); refine (k1 _ hW).mono ?_; rintro e w1 ⟨rfl, hb1⟩
         have hW1 := hW.trans (hb1.mono hW.size)
         have hT1 := hT.later hb1
         obtain ⟨c0, c1, c2, c3, c4, c5, c6, c7, c8, c9, c10, c11⟩ := hT1.cells)
      | (go_at_call_of 292 (Value.slice ta tn tc); refine (k2 _ hW1).mono ?_; rintro e w2 ⟨rfl, hb2⟩
         have hW2 := hW1.trans (hb2.mono hW1.size)
         have hT2 := hT1.later hb2
         clear c0 c1 c2 c3 c4 c5 c6 c7 c8 c9 c10 c11
         obtain ⟨c0, c1, c2, c3, c4, c5, c6, c7, c8, c9, c10, c11⟩ := hT2.cells)
      | (go_at_call 293; refine (k3 _).mono ?_; rintro e w3 ⟨rfl, hb3⟩))
    go_step3
    exact ⟨rfl, rfl, rfl, by rw [← hR]; rfl, hW2.trans (hb3.mono hW2.size)⟩
  by_cases hal : al = true ∧ 0 < ln
  · obtain ⟨rfl, hl0⟩ := hal
    have i0 : (0 : Int) < ln := by omega
    go_wp2_with (first
      | (go_at_call_of 292 (Value.slice pa pn pc); refine (k1 _ hW).mono ?_; rintro e w1 ⟨rfl, hb1⟩
         have hW1 := hW.trans (hb1.mono hW.size)
         have hT1 := hT.later hb1
         obtain ⟨c0, c1, c2, c3, c4, c5, c6, c7, c8, c9, c10, c11⟩ := hT1.cells)
      | (go_at_call_of 292 (Value.slice ta tn tc); refine (k2 _ hW1).mono ?_; rintro e w2 ⟨rfl, hb2⟩
         have hW2 := hW1.trans (hb2.mono hW1.size)
         have hT2 := hT1.later hb2
         clear c0 c1 c2 c3 c4 c5 c6 c7 c8 c9 c10 c11
         obtain ⟨c0, c1, c2, c3, c4, c5, c6, c7, c8, c9, c10, c11⟩ := hT2.cells)
      | (go_at_call 293; refine (k3 _).mono ?_; rintro e w3 ⟨rfl, hb3⟩
         have hW3 := hW2.trans (hb3.mono hW2.size)
         have hT3 := hT2.later hb3
         clear c0 c1 c2 c3 c4 c5 c6 c7 c8 c9 c10 c11
         obtain ⟨c0, c1, c2, c3, c4, c5, c6, c7, c8, c9, c10, c11⟩ := hT3.cells))
    go_step3
    exact ⟨rfl, rfl, rfl, by rw [← hR]; unfold whyN; rw [show decide (0 < l.length) = true by rw [hln]; exact decide_eq_true hl0]; rfl, hW3⟩
  · have hR2 : R = if l.any (·.al) then 6 else 0 := by
      rw [← hR]
      unfold whyN
      cases al
      · simp
      · have : ln = 0 := by simpa using hal
        simp [hln, this]
    rcases (by cases al; exact .inl rfl; exact .inr ⟨rfl, by simpa using hal⟩ : al = false ∨ (al = true ∧ ln = 0)) with rfl | ⟨rfl, rfl⟩
    all_goals
      clear hR hal
      go_wp2_with (first
        | (go_at_call_of 292 (Value.slice pa pn pc); refine (k1 _ hW).mono ?_; rintro e w1 ⟨rfl, hb1⟩
           have hW1 := hW.trans (hb1.mono hW.size)
           have hT1 := hT.later hb1
           obtain ⟨c0, c1, c2, c3, c4, c5, c6, c7, c8, c9, c10, c11⟩ := hT1.cells)
        | (go_at_call_of 292 (Value.slice ta tn tc); refine (k2 _ hW1).mono ?_; rintro e w2 ⟨rfl, hb2⟩
           have hW2 := hW1.trans (hb2.mono hW1.size)
           have hT2 := hT1.later hb2
           clear c0 c1 c2 c3 c4 c5 c6 c7 c8 c9 c10 c11
           obtain ⟨c0, c1, c2, c3, c4, c5, c6, c7, c8, c9, c10, c11⟩ := hT2.cells)
        | (go_at_call 293; refine (k3 _).mono ?_; rintro e w3 ⟨rfl, hb3⟩
           have hW3 := hW2.trans (hb3.mono hW2.size)
           have hT3 := hT2.later hb3
           clear c0 c1 c2 c3 c4 c5 c6 c7 c8 c9 c10 c11
           obtain ⟨c0, c1, c2, c3, c4, c5, c6, c7, c8, c9, c10, c11⟩ := hT3.cells))
      clear k1 k2 k3 hT hT1 hT2 hT3 c0 c1 c2 c3 c4 c5 c6 c7 c8 c9 c10 c11 hb1 hb2 hb3 hW hW1 hW2
      go_loopw [42] (fun i wr => ∃ k : Nat, k ≤ l.length ∧ i = .int .i64 k ∧ (l.take k).any (·.al) = false ∧ Below w.heap.size w wr) (fun i _ => l.length - (intOf i).toNat)
      case atStart => exact ⟨0, Nat.zero_le _, rfl, by simp, hW3⟩
      case round =>
        obtain ⟨k, hk, rfl, hno, hbw⟩ := hrel
        by_cases hlt : k < l.length
        · obtain ⟨B, o, rfl, hat⟩ := (hlw wr hbw).2 k _ (List.getElem?_eq_getElem hlt)
          have hst := any_take hlt
          rw [hno, Bool.false_or] at hst
          have hany : l[k].al = true → l.any (·.al) = true := fun h => List.any_eq_true.2 ⟨_, List.getElem_mem hlt, h⟩
          obtain ⟨p, hp⟩ : ∃ p, l[k] = p := ⟨_, rfl⟩
          rw [hp] at hat hst hany
          obtain ⟨pd, nd, c, m, b⟩ := p
          obtain ⟨d0, d1, d2, d3, d4⟩ := hat
          simp only at d0 d1 d2 d3 d4 hst hany
          have i1 : (k : Int) < l.length := by omega
          try rw [hln] at i1 hk hlt hll
          clear hlw hp hno
          first
          | (exfalso; clear hR2 hany hst; omega)
          | (cases b
             · clear hany
               go_wp2
               go_roundw
               case rel => exact ⟨k + 1, by omega, by go_num, hst, by first | exact (up hbw _).setCell (p := ⟨wr.heap.size, _, none⟩) hbw.size _ | exact up hbw _⟩
               case measure => simp [intOf]; omega
             · have hR3 : R = 6 := by rw [hR2, hany rfl]; rfl
               subst hR3
               clear hany hR2
               go_wp2
               go_step3
               exact ⟨rfl, rfl, rfl, rfl, by first | exact up hbw _⟩)
        · have hR3 : R = 0 := by
            rw [hR2]
            rw [List.take_of_length_le (by omega)] at hno
            rw [hno]; rfl
          have i1 : ¬ (k : Int) < l.length := by omega
          try rw [hln] at i1 hk hlt hll
          subst hR3
          clear hlw hno hR2
          go_wp2
          go_step3
          go_wp2
          rw [jump_ret]
          go_ret
          exact ⟨rfl, hbw⟩

end Go.Proofs.YthneemgpifbehaaGreatDoor
