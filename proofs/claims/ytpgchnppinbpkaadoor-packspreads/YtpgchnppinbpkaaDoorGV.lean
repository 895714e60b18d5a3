/- The contract of Give of package ledger. -/
import Derived.Test.YtpgchnppinbpkaaDoorWJ
namespace Go.Proofs.YtpgchnppinbpkaaDoor
open Go.RowKit Go.Maps

def Rec.minus (r : Rec) (q : Pl) : Rec := { r with u := r.u - q.cpu, m := r.m - q.mem, k := wrap64 (r.k - 1) }
def giveF : List (ByteArray × Rec) → List Pl → Option (List (ByteArray × Rec))
  | E, [] => some E
  | E, q :: t => match look E q.node with
    | none => none
    | some r => if q.cpu ≤ r.u ∧ q.mem ≤ r.m then giveF (put sK E q.node (r.minus q)) t else none
theorem Rec.Ok.minus {w : World} {fp : Nat → Prop} {r : Rec} (h : r.Ok w fp) (q : Pl) : (r.minus q).Ok w fp := ⟨h.h1, h.h2, h.f1, h.f2, h.s1, h.s2⟩
theorem Rec.Fair.minus {r : Rec} (h : r.Fair) {q : Pl} (hq : 0 ≤ q.cpu ∧ 0 ≤ q.mem) (hf : q.cpu ≤ r.u ∧ q.mem ≤ r.m) : (r.minus q).Fair := by
  obtain ⟨h1, h2, h3, h4, h5, h6⟩ := h
  exact ⟨by simp [Rec.minus]; omega, by simp [Rec.minus]; omega, by simp [Rec.minus]; omega, by simp [Rec.minus]; omega, h5, h6⟩

set_option maxRecDepth 100000 in
set_option maxHeartbeats 1000000 in
theorem give_none (w : World) (L : Nat) (fp : Nat → Prop) (p q : Option Nat) (E : List (ByteArray × Rec)) (G : List (Int × Grp)) (h : IsL w L fp p q E G) (g : Int) (hg : (Lit.int .i64 g).wf = true) (hn : look G g = none) :
    Calls Tryd.prog 18 #[.pointer (some ⟨L, 0, none⟩), .int .i64 g] w fun e w' => e = .returned (.int .i64 5) ∧ w' = w := by
  have hlk := h.gangs.look2 g hg
  rw [hn] at hlk
  simp only [Option.getD_none, Option.isSome_none, zgrp, Grp.val] at hlk
  have c0 := h.box.cell (i := 1) rfl
  clear h
  go_enter Tryd.func18, Tryd.ntmps18
  go_wp2
  go_ret
  exact ⟨rfl, rfl⟩

set_option maxRecDepth 100000 in
set_option maxHeartbeats 8000000 in
theorem give_some (w : World) (L : Nat) (fp : Nat → Prop) (p q : Option Nat) (E E' : List (ByteArray × Rec)) (G : List (Int × Grp)) (h : IsL w L fp p q E G) (g : Int) (hg : (Lit.int .i64 g).wf = true) (a : Option Addr) (c : Nat) (ps : List Pl) (hn : look G g = some ⟨a, c, ps⟩)
    (hE : giveF E ps = some E') (hF : ∀ e ∈ E, e.2.Fair) (hz : ∀ p ∈ ps, p.node.size ≤ maxLen) (hq : ∀ p ∈ ps, 0 ≤ p.cpu ∧ 0 ≤ p.mem) (hlen : E.length ≤ 1000) :
    Calls Tryd.prog 18 #[.pointer (some ⟨L, 0, none⟩), .int .i64 g] w fun e w' => e = .returned (.int .i64 0) ∧ IsL w' L fp p q E' (del G g) ∧ Kept fp w w' := by
  have hlk := h.gangs.look2 g hg
  have hmG := mem_of_look hn
  rw [hn] at hlk
  simp only [Option.getD_some, Option.isSome_some, Grp.val] at hlk
  have c0 := h.box.cell (i := 1) rfl
  have hps : ps.length ≤ 1000 := (h.okG _ hmG).h.1
  have HS0 : Hid (giveF E (ps.drop 0) = some E') := by show _ = _; simpa using hE
  obtain ⟨n, hnn⟩ : ∃ n, ps.length = n := ⟨_, rfl⟩
  rw [hnn] at hlk hps
  go_enter Tryd.func18, Tryd.ntmps18
  go_wp2
  go_loopw [23] (fun i wr => ∃ (k : Nat) (Ek : List (ByteArray × Rec)), k ≤ n ∧ i = .int .i64 k ∧ Hid (giveF Ek (ps.drop k) = some E') ∧ IsL wr L fp p q Ek G ∧ (∀ e ∈ Ek, e.2.Fair) ∧ Ek.length ≤ 1000 ∧ Kept fp w wr) (fun i _ => n - (intOf i).toNat)
  case atStart => exact ⟨0, E, Nat.zero_le _, rfl, HS0, h, hF, hlen, .refl _ _⟩
  case round =>
    obtain ⟨k, Ek, hk, rfl, HS, hI, hFk, hlk2, hkw⟩ := hrel
    clear HS0 hlk c0
    have hPr := (hI.okG _ hmG).h
    by_cases hlt : k < n
    · obtain ⟨B, o, hao, hat⟩ := hPr.2 k _ (List.getElem?_eq_getElem (by simp only; omega))
      simp only at hao hat
      subst hao
      have hd := pls_drop ps k (by omega)
      have hzk := hz ps[k] (List.getElem_mem _)
      have hqk := hq ps[k] (List.getElem_mem _)
      obtain ⟨p', hp⟩ : ∃ p, ps[k] = p := ⟨_, rfl⟩
      rw [hp] at hat hd hzk hqk
      obtain ⟨pod, node, cpu, mem, al⟩ := p'
      obtain ⟨d0, d1, d2, d3, d4⟩ := hat
      simp only at d0 d1 d2 d3 d4 hzk hqk
      have H2 := HS.out
      rw [hd] at H2
      simp only [giveF] at H2
      cases hle : look Ek node with
      | none => rw [hle] at H2; cases H2
      | some r =>
        rw [hle] at H2
        simp only at H2
        split at H2
        case isFalse => cases H2
        case isTrue hfit =>
        have H3 : Hid (giveF (put sK Ek node (r.minus ⟨pod, node, cpu, mem, al⟩)) (ps.drop (k + 1)) = some E') := H2
        clear H2 HS hd hp hPr
        have hrO := hI.okE _ (mem_of_look hle)
        have hrF := hFk _ (mem_of_look hle)
        obtain ⟨b, rfl, hN⟩ : ∃ b, p = some b ∧ NOwn wr b Ek := by
          rcases hI.nodes with ⟨_, h0⟩ | hh
          · subst h0; cases hle
          · exact hh
        have hI1 : IsL (wr.alloc (.cells #[.string pod, .string node, .int .i64 cpu, .int .i64 mem, .bool al] 45)) L fp (some b) q Ek G := hI.later (up (Below.refl _ _) _)
        have hB1 : Box (wr.alloc (.cells #[.string pod, .string node, .int .i64 cpu, .int .i64 mem, .bool al] 45)) wr.heap.size #[.string pod, .string node, .int .i64 cpu, .int .i64 mem, .bool al] 45 := Box.new wr _ _ rfl
        have hk1 : Kept fp w (wr.alloc (.cells #[.string pod, .string node, .int .i64 cpu, .int .i64 mem, .bool al] 45)) := hkw.trans (.of_below (up (Below.refl _ _) _))
        have nS : ¬ fp wr.heap.size := hI.outs
        go_upto_region 7 with fail
        generalize (wr.alloc (.cells #[.string pod, .string node, .int .i64 cpu, .int .i64 mem, .bool al] 45)) = w3 at hI1 hB1 hk1 ⊢
        generalize wr.heap.size = S at hB1 nS ⊢
        have hrO3 : r.Ok w3 fp := hI1.okE _ (mem_of_look hle)
        clear d0 d1 d2 d3 d4 hI hN hkw hrO
        have l1 : w3.cell? ⟨L, 0, none⟩ = some (.map (some b)) := hI1.box.cell rfl
        have l2 : w3.cell? ⟨S, 1, none⟩ = some (.string node) := hB1.cell rfl
        have l3' : (Instr.lookup 70 (.map (some b)) (.string node) false).run Tryd.prog w3.drew = _ := (show NMap w3.drew (some b) Ek from hI1.nodes).look1 node hzk
        have l3a : ∀ o, (Instr.lookup 70 (.map (some b)) (.string node) false).run Tryd.prog (w3.alloc o).drew = _ := fun o => (show NMap (w3.alloc o).drew (some b) Ek from (hI1.later (up (Below.refl _ _) o)).nodes).look1 node hzk
        rw [hle, Option.getD_some] at l3'
        simp only [hle, Option.getD_some] at l3a
        obtain ⟨nm', cpu', mem', a1', c1', xs', a2', c2', ys', cl', u, m, k'⟩ := r
        simp only [Rec.val] at l3' l3a
        have l1a := fun o => cell_alloc l1 o
        have l2a := fun o => cell_alloc l2 o
        go_cut [9] (fun v6 wx => v6 = .pointer (some ⟨w3.heap.size, 0, none⟩) ∧ wx = (w3.alloc (.cells #[.string nm', .int .i64 cpu', .int .i64 mem', .slice a1' xs'.length c1', .slice a2' ys'.length c2', .bool cl', .int .i64 u, .int .i64 m, .int .i64 k'] 79)).drew)
        case first =>
          go_region_with (fail)
          all_goals
            go_wp2
            go_meet
            case rel => exact ⟨rfl, rfl⟩
        case rest =>
          obtain ⟨rfl, rfl⟩ := hcut
          have hI4 : IsL (w3.alloc (.cells #[.string nm', .int .i64 cpu', .int .i64 mem', .slice a1' xs'.length c1', .slice a2' ys'.length c2', .bool cl', .int .i64 u, .int .i64 m, .int .i64 k'] 79)).drew L fp (some b) q Ek G := hI1.later (Below.drew (up (Below.refl _ _) _))
          have hB4 : Box (w3.alloc (.cells #[.string nm', .int .i64 cpu', .int .i64 mem', .slice a1' xs'.length c1', .slice a2' ys'.length c2', .bool cl', .int .i64 u, .int .i64 m, .int .i64 k'] 79)).drew S #[.string pod, .string node, .int .i64 cpu, .int .i64 mem, .bool al] 45 := hB1.up _
          have hS4 : Box (w3.alloc (.cells #[.string nm', .int .i64 cpu', .int .i64 mem', .slice a1' xs'.length c1', .slice a2' ys'.length c2', .bool cl', .int .i64 u, .int .i64 m, .int .i64 k'] 79)).drew w3.heap.size #[.string nm', .int .i64 cpu', .int .i64 mem', .slice a1' xs'.length c1', .slice a2' ys'.length c2', .bool cl', .int .i64 u, .int .i64 m, .int .i64 k'] 79 := Box.new w3 _ _ rfl
          have hk4 : Kept fp w (w3.alloc (.cells #[.string nm', .int .i64 cpu', .int .i64 mem', .slice a1' xs'.length c1', .slice a2' ys'.length c2', .bool cl', .int .i64 u, .int .i64 m, .int .i64 k'] 79)).drew := hk1.trans (.of_below (Below.drew (up (Below.refl _ _) _)))
          have nT : ¬ fp w3.heap.size := hI1.outs
          have hST : S < w3.heap.size := hB1.lt
          have zT : w.heap.size ≤ w3.heap.size := hk1.size
          generalize (w3.alloc (.cells #[.string nm', .int .i64 cpu', .int .i64 mem', .slice a1' xs'.length c1', .slice a2' ys'.length c2', .bool cl', .int .i64 u, .int .i64 m, .int .i64 k'] 79)).drew = W4 at hI4 hB4 hS4 hk4 ⊢
          generalize w3.heap.size = T at hS4 nT hST zT ⊢
          clear l1 l2 l3' l3a l1a l2a hI1 hB1 hk1 hrO3
          have hpF := hrF.minus (q := ⟨pod, node, cpu, mem, al⟩) hqk hfit
          have kA := sub_any u m cpu mem ⟨hrF.u, hrF.m⟩ hqk ⟨hrF.cu, hrF.cm⟩ hfit W4
          have y2 := hB4.cell (i := 2) rfl
          have y3 := hB4.cell (i := 3) rfl
          have t6 := hS4.cell (i := 6) rfl
          have t7 := hS4.cell (i := 7) rfl
          have zS : S ≠ T := by omega
          have zS' : T ≠ S := by omega
          clear hrF hfit
          go_upto_region 10 with (go_at_call 33; refine kA.mono ?_; rintro e w6 ⟨rfl, h6⟩; have hS6 := hS4.later h6; have v6 := hS6.cell (i := 6) rfl; have v7 := hS6.cell (i := 7) rfl; have v8 := hS6.cell (i := 8) rfl; have f6 := hS6.frozen 6; have f7 := hS6.frozen 7; have f8 := hS6.frozen 8)
          have hI6 := hI4.later h6
          have hB6 := hB4.later h6
          have hk6 : Kept fp w w6 := hk4.trans (.of_below h6)
          have hg8 : w6.grownBy (((w6.setCell ⟨T, 6, none⟩ (.int .i64 (u - cpu))).setCell ⟨T, 7, none⟩ (.int .i64 (m - mem))).setCell ⟨T, 8, none⟩ (.int .i64 (wrap64 (k' - 1)))) (some T) := grown_trans (grown_trans (grown_set _ T 6 _) (grown_set _ T 7 _)) (grown_set _ T 8 _)
          have b8 := ((hS6.set 6 (.int .i64 (u - cpu))).set 7 (.int .i64 (m - mem))).set 8 (.int .i64 (wrap64 (k' - 1)))
          simp only [List.setIfInBounds_toArray, List.set_cons_succ, List.set_cons_zero] at b8
          generalize (((w6.setCell ⟨T, 6, none⟩ (.int .i64 (u - cpu))).setCell ⟨T, 7, none⟩ (.int .i64 (m - mem))).setCell ⟨T, 8, none⟩ (.int .i64 (wrap64 (k' - 1)))) = W8 at hg8 b8 ⊢
          have hI8 := hI6.grownO hg8 nT
          have hB8 := hB6.grown hg8 (by simpa using zS)
          have hk8 : Kept fp w W8 := ⟨hg8.os.trans hk6.os, hg8.tape.trans hk6.tape, hg8.output.trans hk6.output, Nat.le_trans hk6.size hg8.size, fun x hx hn => (hg8.block x (Nat.lt_of_lt_of_le hx hk6.size) (by intro e; cases e; omega)).trans (hk6.block x hx hn)⟩
          obtain ⟨b', hb', hN8⟩ := hI8.nodes.resolve_left (by simp)
          cases hb'
          have hrO8 := hI8.okE _ (mem_of_look hle)
          obtain ⟨w9, hrun, hown, hgrow⟩ := World.ownsMap.update (show NOwn W8.drew b Ek from hN8) kS Tryd.underlying70 (by unfold maxLen; omega) (keyS hzk) (val := Rec.val (Rec.minus ⟨nm', cpu', mem', a1', c1', xs', a2', c2', ys', cl', u, m, k'⟩ ⟨pod, node, cpu, mem, al⟩)) (d := .held (Rec.val (Rec.minus ⟨nm', cpu', mem', a1', c1', xs', a2', c2', ys', cl', u, m, k'⟩ ⟨pod, node, cpu, mem, al⟩))) (ps := []) rfl
          have hown := NOwn.put hown
          have hgrow : W8.grownBy w9 (some b) := grown_trans (below_grown (Below.drew (Below.refl _ _)) _) hgrow
          simp only [Rec.val, Rec.minus] at hrun
          have c8 : W8.cell? ⟨L, 0, none⟩ = some (.map (some b)) := hI8.box.cell rfl
          have e8 := hB8.cell (i := 1) rfl
          obtain ⟨x0, x1, x2, x3, x4, x5, x6, x7, x8⟩ := b8.cells9
          have hap := hN8.apart
          have hI9 := hI8.putN hown hgrow (hrO8.minus ⟨pod, node, cpu, mem, al⟩)
          have hk9 : Kept fp w w9 := hk8.trans (.of_grown hgrow (hI8.fp1 b rfl))
          clear hI4 hB4 hS4 hk4 kA y2 y3 t6 t7 h6 hS6 v6 v7 v8 f6 f7 f8 hI6 hB6 hk6 hg8 hI8 hB8 b8 hN8 hrO8 hk8
          go_region_with (fail)
          all_goals
            go_wp2
            go_roundw
            case rel =>
              refine ⟨k + 1, _, hlt, by go_num, H3, hI9, ?_, ?_, hk9⟩
              · intro e he
                rcases (mem_put sK).1 he with rfl | ⟨he, _⟩
                · exact hpF
                · exact hFk e he
              · rw [length_put sK hap, hle]; simpa using hlk2
            case measure => simp [intOf]; omega
    · have e1 : k = n := by omega
      have e2 : Ek = E' := by
        have := HS.out
        rw [e1, List.drop_of_length_le (by omega)] at this
        simpa [giveF] using this
      clear hPr HS e1 hE
      subst e2
      obtain ⟨cq, rfl, hGo⟩ : ∃ b, q = some b ∧ GOwn wr b G := by
        rcases hI.gangs with ⟨_, h0⟩ | hh
        · subst h0; cases hmG
        · exact hh
      have c1 : wr.cell? ⟨L, 1, none⟩ = some (.map (some cq)) := hI.box.cell rfl
      go_wp2_with (first
        | (at_delete; refine wpList_delete_own _ rfl _ _ 71 3 rfl 30 kI Tryd.underlying71 raw cq _ _ rfl hGo _ _ rfl (keyI hg) ?_; intro w1 hown1 hturn1; go_frame)
        | go_in)
      go_ret
      have hg1 := hturn1.grown
      exact ⟨rfl, hI.delG (GOwn.del hown1) hg1, hkw.trans (.of_grown hg1 (hI.fp2 cq rfl))⟩

end Go.Proofs.YtpgchnppinbpkaaDoor
