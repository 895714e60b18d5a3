/- Package pack: the places that a room has, and those on one node. -/
import Derived.Test.YtpgchnppinbpkaaDoorPK
namespace Go.Proofs.YtpgchnppinbpkaaDoor
open Go.RowKit Go.Maps
set_option linter.unusedSimpArgs false
set_option linter.unusedVariables false

theorem own_low {w : World} {B B' : Nat} {e : TypeId} {size : Nat} {v : Value} {n : Nat} {xs : List Value} (h : w.ownsRow B e size v n xs) (hB : B' ≤ B) : w.ownsRow B' e size v n xs := by
  refine ⟨h.1, ?_⟩
  rcases h.2 with h1 | ⟨g, cap, cur, h1, h2, h3⟩
  · exact .inl h1
  · exact .inr ⟨g, cap, cur, h1, by omega, h3⟩
theorem own_after {w w' : World} {B : Nat} {e : TypeId} {size : Nat} {v : Value} {n : Nat} {xs : List Value} (h : w.ownsRow B e size v n xs) (hb : Below w.heap.size w w') : w'.ownsRow B e size v n xs :=
  h.kept (below_grown hb none) (by cases v.ownBlock with | none => exact .inl rfl | some j => exact .inr (by simp))
/-- A row of places of the call's own, as a row of places. -/
theorem pls_own {w : World} {base : Nat} {v : Value} {n : Nat} {l : List Pl} (h : w.ownsRow base 45 5 v n (l.flatMap Pl.cells)) (hl : l.length ≤ 1000) (hn : l.length = n) : ∃ a c, v = .slice a n c ∧ Pls w a l ∧ SP a ∧ (a = none → c = 0) ∧ n ≤ c ∧ ∀ x, a = some x → base ≤ x.block ∧ x.block < w.heap.size := by
  rcases h.2 with ⟨rfl, h0⟩ | ⟨g, cap, cur, rfl, hb, hh, hncap, hrest⟩
  · have : l = [] := List.eq_nil_of_length_eq_zero (by omega)
    subst this h0
    exact ⟨none, 0, rfl, ⟨by simp, by simp⟩, SP.none, fun _ => rfl, Nat.le_refl _, fun x hx => by cases hx⟩
  · refine ⟨some ⟨g, 0, none⟩, cap, rfl, pls_of_cells hl (fun j u hj => ?_), SP.some _ _, (fun h => by cases h), hncap, fun x hx => by cases hx; exact ⟨hb, (Array.getElem?_eq_some_iff.1 hh).1⟩⟩
    have := h.cells (g := g) rfl j u hj
    rwa [add_spot rfl] at this

abbrev zlaid : Value := .agg #[.nilIface, .string ⟨#[]⟩, .string ⟨#[]⟩, .int .i64 0, .int .i64 0, .bool false]
theorem ta_no (p : Value) (w : World) : (Instr.typeAssert (.iface 24 p) 98 102 true).run Tryd.prog w = .ok (.tuple #[zlaid, .bool false]) w := by kernel_rfl
theorem ta_yes (p : Value) (w : World) : (Instr.typeAssert (.iface 102 p) 98 102 true).run Tryd.prog w = .ok (.tuple #[p, .bool true]) w := by kernel_rfl
theorem cfplaced (args : Array Value) (w : World) : (callFunc 52 args).run Tryd.prog w = .ok (.enter 52 args) w := by kernel_rfl

def placedF (TT : TypeId) (VV : Value) (B N : Nat) (q : Pl) (t : List Pl) : Nat → Value → World → Prop
  | 0, u, _ => u = .pointer (some ⟨B, 0, none⟩)
  | 1, u, _ => u = .iface TT VV
  | 2, u, w => w.ownsRow N 45 5 u t.length (t.reverse.flatMap Pl.cells)
  | 3, u, _ => u = .pointer (some ⟨B, 1, none⟩)
  | 4, u, _ => u = .agg #[.string q.pod, .string q.node, .int .i64 q.cpu, .int .i64 q.mem, .bool q.al]
  | 5, u, w => ∃ D, u = .slice (some ⟨D, 0, none⟩) 1 1 ∧ NewCells w D q.cells
  | _, _, _ => True

set_option maxRecDepth 100000 in
set_option maxHeartbeats 8000000 in
theorem placed_any (L : Nat) : ∀ (l : List Pl), l.length ≤ 8 → ∀ w, Calls Tryd.prog 52 #[roomV L l] w fun e w' => ∃ v, e = .returned v ∧ w'.ownsRow w.heap.size 45 5 v l.length (l.reverse.flatMap Pl.cells) ∧ Below w.heap.size w w'
  | [], _, w => by
    have h0 := ta_no
    unfold roomV
    go_enter Tryd.func52, Tryd.ntmps52
    go_wp2
    go_ret
    exact ⟨_, rfl, World.ownsRow_nil _ _ _ _, by first | exact up (Below.refl _ _) _ | skip⟩
  | q :: t, h8, w => by
    have hl : t.length ≤ 7 := by simp only [List.length_cons] at h8; omega
    have ih := placed_any L t (by omega)
    obtain ⟨i0, hi, hz0, hz1, hz2⟩ := info_parts infoPl
    have h0 := ta_yes
    unfold roomV
    obtain ⟨TT, VV, hV⟩ : ∃ T V, roomV L t = .iface T V := by cases t <;> exact ⟨_, _, rfl⟩
    rw [hV] at ih ⊢
    go_enter Tryd.func52, Tryd.ntmps52
    go_upto_region 3 with fail
    have hB0 := Box.new w #[.iface TT VV, .string q.pod, .string q.node, .int .i64 q.cpu, .int .i64 q.mem, .bool q.al] 102 rfl
    have hbW : Below w.heap.size w (w.alloc (.cells #[.iface TT VV, .string q.pod, .string q.node, .int .i64 q.cpu, .int .i64 q.mem, .bool q.al] 102)) := up (Below.refl _ _) _
    generalize w.alloc (.cells #[.iface TT VV, .string q.pod, .string q.node, .int .i64 q.cpu, .int .i64 q.mem, .bool q.al] 102) = W at hB0 hbW ⊢
    generalize hB : w.heap.size = B at hB0 ⊢
    clear h0
    refine wp_region_rely_upto 6 2 (fun w1 => Below W.heap.size W w1) (fun w1 w2 => Below w1.heap.size w1 w2) (placedF TT VV B W.heap.size q t) (by kernel_rfl) (by kernel_rfl) (by kernel_rfl) (Below.refl _ _).drew ?keep ?step ?rest
    case keep =>
      intro i v w1 w2 hS hF
      unfold placedF at *
      split at hF <;> try exact hF
      · exact own_after hF hS
      · obtain ⟨D, hv, hc⟩ := hF
        exact ⟨D, hv, hc.later hS⟩
    case step =>
      intro i o d hi ho hd b w1 hR hold hdep
      have o3 : sl b 3 = .pointer (some ⟨B, 0, none⟩) := hold 3 (by kernel_rfl)
      have hb0 := Below.refl w1.heap.size w1
      obtain ⟨x0, x1, x2, x3, x4, x5⟩ := (hB0.later hR).cells6
      rcases i with _ | _ | _ | _ | _ | _ | i
      all_goals try (cases ho; cases hd)
      · exact ok_val' rfl rfl (want_none rfl b) (by simp [go_sem, o3]) hR hb0 rfl
      · have f11 : sl b 11 = .pointer (some ⟨B, 0, none⟩) := hdep 0 _ _ rfl rfl (by kernel_rfl)
        exact ok_val' rfl rfl (want_none rfl b) (by simp [go_sem, f11, x0]) hR hb0 rfl
      · have f12 : sl b 12 = .iface TT VV := hdep 1 _ _ rfl rfl (by kernel_rfl)
        refine ok_enter' rfl rfl (want_none rfl b) ?_ ((ih w1).mono ?_)
        · simp [go_sem, f12, cfplaced]
        rintro e w2 ⟨v, rfl, hv, hb2⟩
        exact ⟨_, rfl, hR.trans (hb2.mono hR.size), hb2, own_low hv hR.size⟩
      · exact ok_val' rfl rfl (want_none rfl b) (by simp [go_sem, o3]) hR hb0 rfl
      · have f14 : sl b 14 = .pointer (some ⟨B, 1, none⟩) := hdep 3 _ _ rfl rfl (by kernel_rfl)
        exact ok_val' rfl rfl (want_none rfl b) (by simp [go_sem, f14, x1, x2, x3, x4, x5]) hR hb0 rfl
      · have f15 : sl b 15 = .agg #[.string q.pod, .string q.node, .int .i64 q.cpu, .int .i64 q.mem, .bool q.al] := hdep 4 _ _ rfl rfl (by kernel_rfl)
        exact ok_val' rfl rfl (want_none rfl b) (by simp [go_sem, f15] <;> first | rfl | exact ⟨rfl, rfl⟩) (hR.alloc hR.size _) (hb0.alloc (Nat.le_refl _) _) ⟨_, rfl, cells_new _ q.cells _ _ rfl⟩
      · omega
    case rest =>
      intro b w1 hR hsz hdf hold hF
      have f13 : w1.ownsRow W.heap.size 45 5 (sl b 13) t.length (t.reverse.flatMap Pl.cells) := hF 2 _ _ (by decide) rfl rfl
      obtain ⟨D, f16, hD⟩ : ∃ D, sl b 16 = .slice (some ⟨D, 0, none⟩) 1 1 ∧ NewCells w1 D q.cells := hF 5 _ _ (by decide) rfl rfl
      have hb1 : Below w.heap.size w w1 := hbW.trans (hR.mono hbW.size)
      have hsz' : b.tmps.size = 18 := hsz
      refine wpK_one 6 _ (by kernel_rfl) rfl (want_none rfl b) ?_
      refine okAt_append (.tmp 13) (.tmp 16) 30 rfl w.heap.size 45 i0 _ 5 56 Tryd.underlying30 hi hz0 hz1 hz2 rfl (by decide) (sl b 13) t.length _ (by simp [go_sem, sl]) (own_low f13 hbW.size) ⟨D, 0, none⟩ 1 1 q.cells (by simpa [go_sem] using f16) rfl hD (by intro u hu; simp only [Pl.cells, List.mem_cons, List.not_mem_nil, or_false] at hu; rcases hu with rfl | rfl | rfl | rfl | rfl <;> rfl) (by unfold maxLen; omega) (by omega) hb1.size ?_
      intro v' w2 hown' hgrow hat
      have hB2 : Below w.heap.size w w2 := hb1.grown hgrow hb1.size (fun j hj => by have := (f13.lt j hj).1; have := hbW.size; omega)
      refine ⟨trivial, wpK_one 7 _ (by kernel_rfl) rfl (want_none rfl _) ?_⟩
      refine okAt_val (w2 := w2) (v := v') (by simp [go_sem, hsz']) ?_
      refine ⟨trivial, wpK_end (by kernel_rfl) ?_⟩
      generalize hb9 : Act.put (Act.put b _ _) _ _ = b9
      have hb8 : (b.put (some 17) v').put (some 2) v' = b9 := hb9
      have e2 : sl b9 2 = v' := sl_same (n := 18) hb8.symm (by rw [put_size]; exact hsz') (by decide)
      have e0 := sl_ne hb8.symm (by decide) (sl_ne rfl (by decide) (hold 0 (by kernel_rfl)))
      have e1 := sl_ne hb8.symm (by decide) (sl_ne rfl (by decide) (hold 1 (by kernel_rfl)))
      have e3 := sl_ne hb8.symm (by decide) (sl_ne rfl (by decide) (hold 3 (by kernel_rfl)))
      have e4 := sl_ne hb8.symm (by decide) (sl_ne rfl (by decide) (hold 4 (by kernel_rfl)))
      have e5 := sl_ne hb8.symm (by decide) (sl_ne rfl (by decide) (hold 5 (by kernel_rfl)))
      have e6 := sl_ne hb8.symm (by decide) (sl_ne rfl (by decide) (hold 6 (by kernel_rfl)))
      have e7 := sl_ne hb8.symm (by decide) (sl_ne rfl (by decide) (hold 7 (by kernel_rfl)))
      have e8 := sl_ne hb8.symm (by decide) (sl_ne rfl (by decide) (hold 8 (by kernel_rfl)))
      have e9 := sl_ne hb8.symm (by decide) (sl_ne rfl (by decide) (hold 9 (by kernel_rfl)))
      have e10 := sl_ne hb8.symm (by decide) (sl_ne rfl (by decide) (hold 10 (by kernel_rfl)))
      have hB9 : b9 = _ := act_list b9 (show b9.tmps.size = 18 by rw [← hb8, put_size, put_size]; exact hsz) (show b9.defers = [] by rw [← hb8]; exact hdf)
      rw [hB9]
      simp only [List.range, List.range.loop, List.map_cons, List.map_nil, e2, e0, e1, e3, e4, e5, e6, e7, e8, e9, e10]
      generalize sl b9 11 = v11, sl b9 12 = v12, sl b9 13 = v13, sl b9 14 = v14, sl b9 15 = v15, sl b9 16 = v16, sl b9 17 = v17
      simp only [sl, List.getElem?_toArray, List.getElem?_cons_succ, List.getElem?_cons_zero, Option.getD_some]
      clear e0 e1 e3 e4 e5 e6 e7 e8 e9 e10 e2 hB9 hb9 hb8 hF hold hdf hsz hsz' f13 f16
      go_wp2
      go_ret
      refine ⟨v', rfl, ?_, hB2⟩
      rw [List.reverse_cons, List.flatMap_append]
      simpa using hown'

/-- Those of them that are on a node. -/
def onB (s : ByteArray) (l : List Pl) : List Pl := l.filter fun q => decide (q.node = s)
theorem onB_take {s : ByteArray} {l : List Pl} {k : Nat} (h : k < l.length) : onB s (l.take (k + 1)) = onB s (l.take k) ++ if l[k].node = s then [l[k]] else [] := by
  rw [List.take_succ_eq_append_getElem h]
  unfold onB
  rw [List.filter_append]
  by_cases e : l[k].node = s <;> simp [e]

set_option maxRecDepth 100000 in
set_option maxHeartbeats 8000000 in
theorem beside_any (L : Nat) (l : List Pl) (h8 : l.length ≤ 8) (s : ByteArray) (w : World) :
    Calls Tryd.prog 67 #[roomV L l, .string s] w fun e w' => ∃ a c, e = .returned (.slice a (onB s l.reverse).length c) ∧ Pls w' a (onB s l.reverse) ∧ Below w.heap.size w w' := by
  obtain ⟨i0, hi, hz0, hz1, hz2⟩ := info_parts infoPl
  have kp := placed_any L l h8 w
  obtain ⟨P, hP⟩ : ∃ P, l.reverse = P := ⟨_, rfl⟩
  have hPl : P.length = l.length := by rw [← hP]; simp
  rw [hP] at kp ⊢
  generalize hn : l.length = n at kp hPl h8
  go_enter Tryd.func67, Tryd.ntmps67
  go_wp2_with (go_at_call 52; refine kp.mono ?_; rintro e w1 ⟨v1, rfl, hv1, hb1⟩; obtain ⟨a1, c1, rfl, hP1, _, _, _, hn1⟩ := pls_own hv1 (by omega) hPl)
  clear kp hv1
  have hsq := fun a => str_eq a s
  go_loopw [5, 11] (fun v i wr => ∃ k : Nat, k ≤ n ∧ i = .int .i64 k ∧ wr.ownsRow w1.heap.size 45 5 v (onB s (P.take k)).length ((onB s (P.take k)).flatMap Pl.cells) ∧ Below w1.heap.size w1 wr) (fun _ i _ => n - (intOf i).toNat)
  case atStart => exact ⟨0, Nat.zero_le _, rfl, World.ownsRow_nil _ _ _ _, Below.refl _ _⟩
  case round =>
    obtain ⟨k, hk, rfl, hown, hbw⟩ := hrel
    by_cases hlt : k < n
    · obtain ⟨PB, PO, rfl, hat⟩ := (hP1.later hbw).2 k _ (List.getElem?_eq_getElem (show k < P.length by omega))
      have hst := onB_take (s := s) (l := P) (k := k) (by omega)
      have hle : (onB s (P.take k)).length ≤ k := Nat.le_trans (List.length_filter_le _ _) (by simp; omega)
      obtain ⟨p, hp⟩ : ∃ p, P[k]'(by omega) = p := ⟨_, rfl⟩
      rw [hp] at hat hst
      obtain ⟨pod, node, cpu, mem, al⟩ := p
      obtain ⟨d0, d1, d2, d3, d4⟩ := hat
      simp only at d0 d1 d2 d3 d4 hst
      have hst : Hid _ := hst
      have i1 : (k : Int) < n := by omega
      have hsq1 := hsq node
      have hbs := hbw.size
      obtain ⟨X, hX⟩ : ∃ X, onB s (P.take k) = X := ⟨_, rfl⟩
      rw [hX] at hown hle
      clear hsq hp hP1
      by_cases heq : node = s
      · have hq : (node.toList == s.toList) = true := by rw [hsq1]; simp [heq]
        replace heq : Hid (node = s) := heq
        clear hsq1
        go_wp2_with (first
          | (at_builtin; refine wpList_append_own_at _ rfl _ _ 30 rfl w1.heap.size 45 i0 _ 5 56 Tryd.underlying30 hi hz0 hz1 hz2 rfl (by decide) _ _ _ rfl ((own_after hown (up (Below.refl _ _) _)).alloc _) ⟨_, 0, none⟩ 1 1 [.string pod, .string node, .int .i64 cpu, .int .i64 mem, .bool al] rfl rfl (cells_new _ _ _ _ (by simp)) (by intro u hu; simp only [List.mem_cons, List.not_mem_nil, or_false] at hu; rcases hu with rfl | rfl | rfl | rfl | rfl <;> rfl) (by unfold maxLen; omega) (by omega) (by simp; omega) ?_; intro v' w5 hown' hgrow hnil hat)
          | go_in)
        go_roundw
        case rel =>
          refine ⟨k + 1, by omega, by go_num, ?_, ((up (up hbw _) _).grown hgrow (by simp; omega) (fun j hj => by have := (hown.lt j hj).1; omega))⟩
          rw [hst.out, if_pos heq.out, hX]
          simpa [Pl.cells] using hown'
        case measure => simp [intOf]; omega
      · have hq : (node.toList == s.toList) = false := by rw [hsq1]; simp [heq]
        clear hsq1
        go_wp2
        go_roundw
        case rel =>
          refine ⟨k + 1, by omega, by go_num, ?_, up hbw _⟩
          rw [hst.out, if_neg heq, hX, List.append_nil]
          exact own_after hown (up (Below.refl _ _) _)
        case measure => simp [intOf]; omega
    · obtain rfl : k = n := by omega
      rw [List.take_of_length_le (by omega)] at hown
      obtain ⟨a2, c2, rfl, hP2, _, _, _, _⟩ := pls_own hown (Nat.le_trans (List.length_filter_le _ _) (by omega)) rfl
      clear hown
      go_wp2
      go_ret
      first | exact ⟨a2, ⟨c2, rfl⟩, hP2, hb1.trans (hbw.mono hb1.size)⟩ | exact ⟨a2, c2, rfl, hP2, hb1.trans (hbw.mono hb1.size)⟩

end Go.Proofs.YtpgchnppinbpkaaDoor
