/- The contract of check of package ledger. -/
import Derived.Test.YthneemgpifbehaaGreatDoorMg09
import Derived.Test.YthneemgpifbehaaGreatDoorMg06
namespace Go.Proofs.YthneemgpifbehaaGreatDoor
open Go.RowKit Go.Maps

/-- What is wrong with the first place that is. -/
def checkF (E : List (ByteArray × Rec)) : List Pl → Int
  | [] => 0
  | q :: t => if look E q.node = none then 5 else if ¬ (0 ≤ q.cpu ∧ 0 ≤ q.mem) then 2 else checkF E t

theorem pls_drop (l : List Pl) (k : Nat) (h : k < l.length) : l.drop k = l[k] :: l.drop (k + 1) := List.drop_eq_getElem_cons h

set_option maxRecDepth 100000 in
set_option maxHeartbeats 4000000 in
theorem check_any (w : World) (L : Nat) (fp : Nat → Prop) (p q : Option Nat) (E : List (ByteArray × Rec)) (G : List (Int × Grp)) (h : IsL w L fp p q E G) (a : Option Addr) (n c : Nat) (ps : List Pl) (hP : Pls w a ps) (hl : ps.length = n) (hz : ∀ p ∈ ps, p.node.size ≤ maxLen) :
    Calls Tryz.prog 150 #[.pointer (some ⟨L, 0, none⟩), .slice a n c] w fun e w' => e = .returned (.int .i64 (checkF E ps)) ∧ Below w.heap.size w w' := by
  have hn := hP.1
  rw [hl] at hn
  obtain ⟨A, hA⟩ : ∃ A, checkF E ps = A := ⟨_, rfl⟩
  have HA : Hid (checkF E (ps.drop 0) = A) := by show _ = _; simpa using hA
  rw [hA]
  clear hA
  go_enter Tryz.func150, Tryz.ntmps150
  go_wp2
  go_loopw [11] (fun i wr => ∃ k : Nat, k ≤ n ∧ i = .int .i64 k ∧ Hid (checkF E (ps.drop k) = A) ∧ Below w.heap.size w wr) (fun i _ => n - (intOf i).toNat)
  case atStart => exact ⟨0, Nat.zero_le _, rfl, HA, Below.refl _ _⟩
  case round =>
    obtain ⟨k, hk, rfl, HS, hbw⟩ := hrel
    clear HA
    have hPr := hP.later hbw
    by_cases hlt : k < n
    · obtain ⟨B, o, rfl, hat⟩ := hPr.2 k _ (List.getElem?_eq_getElem (by omega))
      have hd := pls_drop ps k (by omega)
      have hzk := hz ps[k] (List.getElem_mem _)
      obtain ⟨p', hp⟩ : ∃ p, ps[k] = p := ⟨_, rfl⟩
      rw [hp] at hat hd hzk
      obtain ⟨pod, node, cpu, mem, al⟩ := p'
      obtain ⟨d0, d1, d2, d3, d4⟩ := hat
      simp only at d0 d1 d2 d3 d4 hzk
      have H2 : Hid (A = if look E node = none then 5 else if ¬ (0 ≤ cpu ∧ 0 ≤ mem) then 2 else checkF E (ps.drop (k + 1))) := by
        show _ = _
        rw [← HS.out, hd]; rfl
      clear HS hd hp
      go_wp2
      have hI1 : IsL (wr.alloc (.cells #[.string pod, .string node, .int .i64 cpu, .int .i64 mem, .bool al] 143)) L fp p q E G := (h.later hbw).later (up (Below.refl _ _) _)
      have hB1 : Box (wr.alloc (.cells #[.string pod, .string node, .int .i64 cpu, .int .i64 mem, .bool al] 143)) wr.heap.size #[.string pod, .string node, .int .i64 cpu, .int .i64 mem, .bool al] 143 := Box.new wr _ _ rfl
      have hb1 : Below w.heap.size w (wr.alloc (.cells #[.string pod, .string node, .int .i64 cpu, .int .i64 mem, .bool al] 143)) := up hbw _
      generalize (wr.alloc (.cells #[.string pod, .string node, .int .i64 cpu, .int .i64 mem, .bool al] 143)) = w3 at hI1 hB1 hb1 ⊢
      generalize wr.heap.size = S at hB1 ⊢
      clear d0 d1 d2 d3 d4 hPr hbw
      obtain ⟨r, hr⟩ : ∃ r, (look E node).getD zrec = r := ⟨_, rfl⟩
      obtain ⟨t, ht⟩ : ∃ t, (look E node).isSome = t := ⟨_, rfl⟩
      have l1 : w3.cell? ⟨L, 0, none⟩ = some (.map p) := hI1.box.cell rfl
      have l2 : w3.cell? ⟨S, 1, none⟩ = some (.string node) := hB1.cell rfl
      have l3' : (Instr.lookup 149 (.map p) (.string node) true).run Tryz.prog w3.drew = _ := (show NMap w3.drew p E from hI1.nodes).look2 node hzk
      have l3a : ∀ o, (Instr.lookup 149 (.map p) (.string node) true).run Tryz.prog (w3.alloc o).drew = _ := fun o => (show NMap (w3.alloc o).drew p E from (hI1.later (up (Below.refl _ _) o)).nodes).look2 node hzk
      rw [hr, ht] at l3'
      simp only [hr, ht] at l3a
      obtain ⟨nm', cpu', mem', a1', c1', xs', a2', c2', ys', cl', u, m, k'⟩ := r
      simp only [Rec.val] at l3' l3a
      have l1a := fun o => cell_alloc l1 o
      have l2a := fun o => cell_alloc l2 o
      go_cut [7, 8] (fun v6 v7 wx => v6 = .pointer (some ⟨w3.heap.size, 0, none⟩) ∧ v7 = .bool t ∧ wx = (w3.alloc (.cells #[.string nm', .int .i64 cpu', .int .i64 mem', .slice a1' xs'.length c1', .slice a2' ys'.length c2', .bool cl', .int .i64 u, .int .i64 m, .int .i64 k'] 161)).drew)
      case first =>
        go_region_with (fail)
        all_goals
          go_wp2
          go_meet
          case rel => exact ⟨rfl, rfl, rfl⟩
      case rest =>
        obtain ⟨rfl, rfl, rfl⟩ := hcut
        have hB4 : Box (w3.alloc (.cells #[.string nm', .int .i64 cpu', .int .i64 mem', .slice a1' xs'.length c1', .slice a2' ys'.length c2', .bool cl', .int .i64 u, .int .i64 m, .int .i64 k'] 161)).drew S #[.string pod, .string node, .int .i64 cpu, .int .i64 mem, .bool al] 143 := hB1.up _
        have hb4 : Below w.heap.size w (w3.alloc (.cells #[.string nm', .int .i64 cpu', .int .i64 mem', .slice a1' xs'.length c1', .slice a2' ys'.length c2', .bool cl', .int .i64 u, .int .i64 m, .int .i64 k'] 161)).drew := Below.drew (up hb1 _)
        generalize (w3.alloc (.cells #[.string nm', .int .i64 cpu', .int .i64 mem', .slice a1' xs'.length c1', .slice a2' ys'.length c2', .bool cl', .int .i64 u, .int .i64 m, .int .i64 k'] 161)).drew = W4 at hB4 hb4 ⊢
        clear l1 l2 l3' l3a l1a l2a hI1 hB1 hb1
        have y2 := hB4.cell (i := 2) rfl
        have y3 := hB4.cell (i := 3) rfl
        obtain ⟨f, hf⟩ : ∃ f, decide (0 ≤ cpu ∧ 0 ≤ mem) = f := ⟨_, rfl⟩
        have kf := right_any f cpu mem hf W4
        cases t with
        | false =>
          have e5 : Hid (A = 5) := by
            show _ = _
            have : look E node = none := by simpa using ht
            rw [H2.out, if_pos this]
          go_wp2
          go_ret
          exact ⟨by rw [e5.out]; rfl, hb4⟩
        | true =>
          have e4 : ¬ look E node = none := by intro e; rw [e] at ht; cases ht
          cases f with
          | false =>
            have e5 : Hid (A = 2) := by
              show _ = _
              simp only [decide_eq_false_iff_not] at hf
              rw [H2.out, if_neg e4, if_pos hf]
            clear hr ht e4 hf
            go_wp2_with (go_at_call 186; refine kf.mono ?_; rintro e w5 ⟨rfl, h5⟩)
            go_ret
            exact ⟨by rw [e5.out]; rfl, hb4.trans (h5.mono hb4.size)⟩
          | true =>
            have e5 : Hid (checkF E (ps.drop (k + 1)) = A) := by
              show _ = _
              have hf : 0 ≤ cpu ∧ 0 ≤ mem := by simpa using hf
              rw [H2.out, if_neg e4, if_neg (by simp [hf])]
            clear H2 hr ht e4 hf
            go_wp2_with (go_at_call 186; refine kf.mono ?_; rintro e w5 ⟨rfl, h5⟩)
            go_roundw
            case rel => exact ⟨k + 1, hlt, by go_num, e5, hb4.trans (h5.mono hb4.size)⟩
            case measure => simp [intOf]; omega
    · have e1 : k = n := by omega
      have e2 : Hid (A = 0) := by show _ = _; rw [← HS.out, e1, List.drop_of_length_le (by omega)]; rfl
      clear hP hPr HS
      go_wp2
      go_ret
      exact ⟨by rw [e2.out]; rfl, hbw⟩

end Go.Proofs.YthneemgpifbehaaGreatDoor

/- What with of package ledger leaves; cells stored into one block. -/
namespace Go.Proofs.YthneemgpifbehaaGreatDoor
open Go.RowKit Go.Maps

/-- What is used, what there is, are numbers. -/
structure Rec.Fair (r : Rec) : Prop where
  u : 0 ≤ r.u
  m : 0 ≤ r.m
  cu : r.u ≤ 9223372036854775807
  cm : r.m ≤ 9223372036854775807
  cpu : r.cpu ≤ 9223372036854775807
  mem : r.mem ≤ 9223372036854775807
theorem zrec_fair : zrec.Fair := ⟨by decide, by decide, by decide, by decide, by decide, by decide⟩

/-- One place more on a node. -/
def Rec.plus (r : Rec) (q : Pl) : Rec := { r with u := r.u + q.cpu, m := r.m + q.mem, k := wrap64 (r.k + 1) }
def nowR (E A : List (ByteArray × Rec)) (s : ByteArray) : Rec := (look A s).getD ((look E s).getD zrec)
def withF (E : List (ByteArray × Rec)) : List (ByteArray × Rec) → List Pl → Option (List (ByteArray × Rec))
  | A, [] => some A
  | A, q :: t => if (nowR E A q.node).u + q.cpu ≤ (nowR E A q.node).cpu ∧ (nowR E A q.node).m + q.mem ≤ (nowR E A q.node).mem then withF E (put sK A q.node ((nowR E A q.node).plus q)) t else none

theorem Rec.Ok.plus {w : World} {fp : Nat → Prop} {r : Rec} (h : r.Ok w fp) (q : Pl) : (r.plus q).Ok w fp := ⟨h.h1, h.h2, h.f1, h.f2, h.s1, h.s2⟩
theorem Rec.Fair.plus {r : Rec} (h : r.Fair) {q : Pl} (hq : 0 ≤ q.cpu ∧ 0 ≤ q.mem) (hf : r.u + q.cpu ≤ r.cpu ∧ r.m + q.mem ≤ r.mem) : (r.plus q).Fair := by
  obtain ⟨h1, h2, h3, h4, h5, h6⟩ := h
  exact ⟨by simp [Rec.plus]; omega, by simp [Rec.plus]; omega, by simp [Rec.plus]; omega, by simp [Rec.plus]; omega, h5, h6⟩

/-- Nine cells of one block, stored. -/
abbrev nine (W : World) (T : Nat) (v0 v1 v2 v3 v4 v5 v6 v7 v8 : Value) : World :=
  ((((((((W.setCell ⟨T, 0, none⟩ v0).setCell ⟨T, 1, none⟩ v1).setCell ⟨T, 2, none⟩ v2).setCell ⟨T, 3, none⟩ v3).setCell ⟨T, 4, none⟩ v4).setCell ⟨T, 5, none⟩ v5).setCell ⟨T, 6, none⟩ v6).setCell ⟨T, 7, none⟩ v7).setCell ⟨T, 8, none⟩ v8
theorem nine_box {W : World} {T : Nat} {t : TypeId} {x0 x1 x2 x3 x4 x5 x6 x7 x8 : Value} (h : Box W T #[x0, x1, x2, x3, x4, x5, x6, x7, x8] t) (v0 v1 v2 v3 v4 v5 v6 v7 v8 : Value) : Box (nine W T v0 v1 v2 v3 v4 v5 v6 v7 v8) T #[v0, v1, v2, v3, v4, v5, v6, v7, v8] t := by
  have h0 := h.set 0 v0
  simp only [List.setIfInBounds_toArray, List.set_cons_zero] at h0
  have h1 := h0.set 1 v1
  simp only [List.setIfInBounds_toArray, List.set_cons_succ, List.set_cons_zero] at h1
  have h2 := h1.set 2 v2
  simp only [List.setIfInBounds_toArray, List.set_cons_succ, List.set_cons_zero] at h2
  have h3 := h2.set 3 v3
  simp only [List.setIfInBounds_toArray, List.set_cons_succ, List.set_cons_zero] at h3
  have h4 := h3.set 4 v4
  simp only [List.setIfInBounds_toArray, List.set_cons_succ, List.set_cons_zero] at h4
  have h5 := h4.set 5 v5
  simp only [List.setIfInBounds_toArray, List.set_cons_succ, List.set_cons_zero] at h5
  have h6 := h5.set 6 v6
  simp only [List.setIfInBounds_toArray, List.set_cons_succ, List.set_cons_zero] at h6
  have h7 := h6.set 7 v7
  simp only [List.setIfInBounds_toArray, List.set_cons_succ, List.set_cons_zero] at h7
  have h8 := h7.set 8 v8
  simp only [List.setIfInBounds_toArray, List.set_cons_succ, List.set_cons_zero] at h8
  exact h8
theorem nine_grown (W : World) (T : Nat) (v0 v1 v2 v3 v4 v5 v6 v7 v8 : Value) : W.grownBy (nine W T v0 v1 v2 v3 v4 v5 v6 v7 v8) (some T) :=
  grown_trans (grown_trans (grown_trans (grown_trans (grown_trans (grown_trans (grown_trans (grown_trans (grown_set _ T 0 _) (grown_set _ T 1 _)) (grown_set _ T 2 _)) (grown_set _ T 3 _)) (grown_set _ T 4 _)) (grown_set _ T 5 _)) (grown_set _ T 6 _)) (grown_set _ T 7 _)) (grown_set _ T 8 _)
theorem IsL.grownO {w w' : World} {L : Nat} {fp : Nat → Prop} {p q : Option Nat} {E : List (ByteArray × Rec)} {G : List (Int × Grp)} {b : Nat} (h : IsL w L fp p q E G) (hg : w.grownBy w' (some b)) (hb : ¬ fp b) : IsL w' L fp p q E G :=
  h.frame (fun k hk => hg.block k (h.lt k hk) (fun e => hb (by cases e; exact hk))) hg.size
theorem NOwn.grownO {w w' : World} {b c : Nat} {M : List (ByteArray × Rec)} (h : NOwn w b M) (hg : w.grownBy w' (some c)) (hne : b ≠ c) : NOwn w' b M := h.kept (hg.block b h.lt (by simpa using hne))

/-- What with leaves. -/
def WithPost (w : World) (fp : Nat → Prop) (R : Option (List (ByteArray × Rec))) (e : Ending) (w' : World) : Prop :=
  (R = none ∧ e = .returned (.tuple #[.map none, .int .i64 6])) ∨ ∃ A, R = some A ∧ e = .returned (.tuple #[.map (some w.heap.size), .int .i64 0]) ∧ NOwn w' w.heap.size A ∧ (∀ e ∈ A, e.2.Ok w fp ∧ e.2.Fair)

end Go.Proofs.YthneemgpifbehaaGreatDoor

/- The contract of with of package ledger. -/
namespace Go.Proofs.YthneemgpifbehaaGreatDoor
open Go.RowKit Go.Maps

set_option maxRecDepth 100000 in
set_option maxHeartbeats 8000000 in
theorem with_any (w : World) (L : Nat) (fp : Nat → Prop) (p q : Option Nat) (E : List (ByteArray × Rec)) (G : List (Int × Grp)) (h : IsL w L fp p q E G) (hF : ∀ e ∈ E, e.2.Fair) (a : Option Addr) (n c : Nat) (ps : List Pl) (hP : Pls w a ps) (hl : ps.length = n) (hz : ∀ p ∈ ps, p.node.size ≤ maxLen) (hq : ∀ p ∈ ps, 0 ≤ p.cpu ∧ 0 ≤ p.mem) :
    Calls Tryz.prog 151 #[.pointer (some ⟨L, 0, none⟩), .slice a n c] w fun e w' => WithPost w fp (withF E [] ps) e w' ∧ Below w.heap.size w w' := by
  have hn := hP.1
  rw [hl] at hn
  have hmm := @run_makeMap Tryz.prog
  obtain ⟨R, hR⟩ : ∃ R, withF E [] ps = R := ⟨_, rfl⟩
  have HR : Hid (withF E [] (ps.drop 0) = R) := by show _ = _; simpa using hR
  rw [hR]
  clear hR
  go_enter Tryz.func151, Tryz.ntmps151
  go_wp2
  go_loopw [16] (fun i wr => ∃ (k : Nat) (A : List (ByteArray × Rec)), k ≤ n ∧ A.length ≤ k ∧ i = .int .i64 k ∧ Hid (withF E A (ps.drop k) = R) ∧ NOwn wr w.heap.size A ∧ (∀ e ∈ A, e.2.Ok w fp ∧ e.2.Fair) ∧ Below w.heap.size w wr) (fun i _ => n - (intOf i).toNat)
  case atStart => exact ⟨0, [], Nat.zero_le _, Nat.le_refl _, rfl, HR, NOwn.made w, (fun e he => by cases he), up (Below.refl _ _) _⟩
  case round =>
    obtain ⟨k, A, hk, hAk, rfl, HS, hN, hAo, hbw⟩ := hrel
    clear HR
    have hPr := hP.later hbw
    by_cases hlt : k < n
    · obtain ⟨B, o, rfl, hat⟩ := hPr.2 k _ (List.getElem?_eq_getElem (by omega))
      have hd := pls_drop ps k (by omega)
      have hzk := hz ps[k] (List.getElem_mem _)
      have hqk := hq ps[k] (List.getElem_mem _)
      obtain ⟨p', hp⟩ : ∃ p, ps[k] = p := ⟨_, rfl⟩
      rw [hp] at hat hd hzk hqk
      obtain ⟨pod, node, cpu, mem, al⟩ := p'
      obtain ⟨d0, d1, d2, d3, d4⟩ := hat
      simp only at d0 d1 d2 d3 d4 hzk hqk
      obtain ⟨r, hr⟩ : ∃ r, nowR E A node = r := ⟨_, rfl⟩
      have H2 : Hid (R = if r.u + cpu ≤ r.cpu ∧ r.m + mem ≤ r.mem then withF E (put sK A node (r.plus ⟨pod, node, cpu, mem, al⟩)) (ps.drop (k + 1)) else none) := by
        show _ = _
        rw [← HS.out, hd, ← hr]; rfl
      have hrO : r.Ok w fp ∧ r.Fair := by
        rw [← hr]
        unfold nowR
        cases h1 : look A node with
        | some x => exact hAo _ (mem_of_look h1)
        | none =>
          cases h2 : look E node with
          | some x => exact ⟨h.okE _ (mem_of_look h2), hF _ (mem_of_look h2)⟩
          | none => exact ⟨zrec_ok _ _, zrec_fair⟩
      have hI1 : IsL (wr.alloc (.cells #[.string pod, .string node, .int .i64 cpu, .int .i64 mem, .bool al] 143)) L fp p q E G := (h.later hbw).later (up (Below.refl _ _) _)
      have hN1 : NOwn (wr.alloc (.cells #[.string pod, .string node, .int .i64 cpu, .int .i64 mem, .bool al] 143)) w.heap.size A := hN.kept (Below.heap_alloc _ _ _ hN.lt)
      have hB1 : Box (wr.alloc (.cells #[.string pod, .string node, .int .i64 cpu, .int .i64 mem, .bool al] 143)) wr.heap.size #[.string pod, .string node, .int .i64 cpu, .int .i64 mem, .bool al] 143 := Box.new wr _ _ rfl
      have hb1 : Below w.heap.size w (wr.alloc (.cells #[.string pod, .string node, .int .i64 cpu, .int .i64 mem, .bool al] 143)) := up hbw _
      go_upto_region 5 with fail
      generalize (wr.alloc (.cells #[.string pod, .string node, .int .i64 cpu, .int .i64 mem, .bool al] 143)) = w3 at hI1 hN1 hB1 hb1 ⊢
      generalize wr.heap.size = S at hB1 ⊢
      clear d0 d1 d2 d3 d4 hPr HS hd hp hN hbw
      have l2 : w3.cell? ⟨S, 1, none⟩ = some (.string node) := hB1.cell rfl
      have hlk : (Instr.lookup 149 (.map (some w.heap.size)) (.string node) true).run Tryz.prog w3 = _ := (show NMap w3 (some w.heap.size) A from .inr ⟨_, rfl, hN1⟩).look2 node hzk
      cases hla : look A node with
      | some r0 =>
        rw [hla] at hlk
        obtain rfl : r0 = r := by rw [← hr]; unfold nowR; rw [hla]; rfl
        obtain ⟨nm', cpu', mem', a1', c1', xs', a2', c2', ys', cl', u, m, k'⟩ := r0
        simp only [Rec.val, Option.getD_some, Option.isSome_some] at hlk
        have hI5 := hI1.later (up (Below.refl _ _) (.cells #[.string nm', .int .i64 cpu', .int .i64 mem', .slice a1' xs'.length c1', .slice a2' ys'.length c2', .bool cl', .int .i64 u, .int .i64 m, .int .i64 k'] 161))
        have hN5 : NOwn (w3.alloc (.cells #[.string nm', .int .i64 cpu', .int .i64 mem', .slice a1' xs'.length c1', .slice a2' ys'.length c2', .bool cl', .int .i64 u, .int .i64 m, .int .i64 k'] 161)) w.heap.size A := hN1.kept (Below.heap_alloc _ _ _ hN1.lt)
        have hB5 := hB1.up (.cells #[.string nm', .int .i64 cpu', .int .i64 mem', .slice a1' xs'.length c1', .slice a2' ys'.length c2', .bool cl', .int .i64 u, .int .i64 m, .int .i64 k'] 161)
        have hS5 : Box (w3.alloc (.cells #[.string nm', .int .i64 cpu', .int .i64 mem', .slice a1' xs'.length c1', .slice a2' ys'.length c2', .bool cl', .int .i64 u, .int .i64 m, .int .i64 k'] 161)) w3.heap.size _ _ := Box.new w3 #[.string nm', .int .i64 cpu', .int .i64 mem', .slice a1' xs'.length c1', .slice a2' ys'.length c2', .bool cl', .int .i64 u, .int .i64 m, .int .i64 k'] 161 rfl
        have hb5 := up hb1 (.cells #[.string nm', .int .i64 cpu', .int .i64 mem', .slice a1' xs'.length c1', .slice a2' ys'.length c2', .bool cl', .int .i64 u, .int .i64 m, .int .i64 k'] 161)
        have hST : S ≠ w3.heap.size := Nat.ne_of_lt hB1.lt
        have hbW : w.heap.size < w3.heap.size := hN1.lt
        go_upto_region 8 with fail
        generalize w3.alloc (.cells #[.string nm', .int .i64 cpu', .int .i64 mem', .slice a1' xs'.length c1', .slice a2' ys'.length c2', .bool cl', .int .i64 u, .int .i64 m, .int .i64 k'] 161) = W5 at hI5 hN5 hB5 hS5 hb5 ⊢
        generalize w3.heap.size = T at hS5 hST hbW ⊢
        clear hlk l2 hI1 hN1 hB1 hb1
        clear hr hla
        have kA := add_any u m cpu mem ⟨hrO.2.u, hrO.2.m⟩ hqk ⟨hrO.2.cu, hrO.2.cm⟩ W5
        have y2 := hB5.cell (i := 2) rfl
        have y3 := hB5.cell (i := 3) rfl
        have t6 := hS5.cell (i := 6) rfl
        have t7 := hS5.cell (i := 7) rfl
        have hcap := hrO.2.cpu
        have hcap2 := hrO.2.mem
        simp only at hcap hcap2
        have hS0 : T ≠ w.heap.size := fun e => by
          obtain ⟨es, cc, hm⟩ := own_map hN5
          have := hS5
          unfold Box at this
          rw [e, hm] at this
          cases this
        have zT : w.heap.size ≤ T := by omega
        by_cases hfit : u + cpu ≤ cpu' ∧ m + mem ≤ mem'
        · have e5 : Hid (withF E (put sK A node (Rec.plus ⟨nm', cpu', mem', a1', c1', xs', a2', c2', ys', cl', u, m, k'⟩ ⟨pod, node, cpu, mem, al⟩)) (ps.drop (k + 1)) = R) := by
            show _ = _
            rw [H2.out, if_pos hfit]
          have hpO := hrO.1.plus ⟨pod, node, cpu, mem, al⟩
          have hpF := hrO.2.plus (q := ⟨pod, node, cpu, mem, al⟩) hqk hfit
          have hadd : addV u m cpu mem = .tuple #[.agg #[.int .i64 (u + cpu), .int .i64 (m + mem)], .int .i64 0] := by unfold addV; rw [if_pos (by omega)]
          rw [hadd] at kA
          have kf := fun W => fits_any true (u + cpu) (m + mem) cpu' mem' (by simpa using hfit) W
          have hnl : A.length < maxLen := by unfold maxLen; omega
          clear hadd H2
          go_upto_region 11 with (first
            | (go_at_call 194; refine kA.mono ?_; rintro e w6 ⟨rfl, h6⟩; have hS6 := hS5.later h6; have v1 := (hS6.up (V (u + cpu) (m + mem))).cell (i := 1) rfl; have v2 := (hS6.up (V (u + cpu) (m + mem))).cell (i := 2) rfl)
            | (go_at_call 117; refine (kf _).mono ?_; rintro e w7 ⟨rfl, h7⟩))
          have hS7 := (hS6.up (V (u + cpu) (m + mem))).later h7
          have hB7 := ((hB5.later h6).up (V (u + cpu) (m + mem))).later h7
          have hQ7 := (Box.new w6 #[.int .i64 (u + cpu), .int .i64 (m + mem)] 52 rfl).later h7
          have h67 : Below w6.heap.size w6 w7 := (up (Below.refl _ _) _).trans (h7.mono (by simp))
          have hN7 : NOwn w7 w.heap.size A := (hN5.kept (h6.block _ hN5.lt)).kept (h67.block _ (Nat.lt_of_lt_of_le hN5.lt h6.size))
          have hb7 : Below w.heap.size w w7 := hb5.trans ((h6.trans (h67.mono h6.size)).mono hb5.size)
          have zQ : T < w6.heap.size := hS6.lt
          generalize w6.heap.size = Q at hQ7 zQ ⊢
          have z1 : T ≠ Q := by omega
          have z2 : Q ≠ T := by omega
          have zS : S ≠ T := hST
          have zS' : T ≠ S := fun e => hST e.symm
          clear hS6 h6 h7 h67 kA kf y2 y3 t6 t7 v1 v2 hI5 hB5 hN5 hb5 hS5 hcap hcap2 hqk hrO zQ
          obtain ⟨q0, q1⟩ := hQ7.cells2
          have g8 := hS7.cell (i := 8) rfl
          have g6 := hS7.cell (i := 6) rfl
          have g7 := hS7.cell (i := 7) rfl
          have f6 := hS7.frozen 6
          have f7 := hS7.frozen 7
          have f8 := hS7.frozen 8
          go_upto_region 13 with fail
          have hg8 : w7.grownBy (((w7.setCell ⟨T, 6, none⟩ (.int .i64 (u + cpu))).setCell ⟨T, 7, none⟩ (.int .i64 (m + mem))).setCell ⟨T, 8, none⟩ (.int .i64 (wrap64 (k' + 1)))) (some T) := grown_trans (grown_trans (grown_set _ T 6 _) (grown_set _ T 7 _)) (grown_set _ T 8 _)
          have b8 := ((hS7.set 6 (.int .i64 (u + cpu))).set 7 (.int .i64 (m + mem))).set 8 (.int .i64 (wrap64 (k' + 1)))
          simp only [List.setIfInBounds_toArray, List.set_cons_succ, List.set_cons_zero] at b8
          generalize (((w7.setCell ⟨T, 6, none⟩ (.int .i64 (u + cpu))).setCell ⟨T, 7, none⟩ (.int .i64 (m + mem))).setCell ⟨T, 8, none⟩ (.int .i64 (wrap64 (k' + 1)))) = W8 at hg8 b8 ⊢
          have hN8 := hN7.grownO hg8 (fun e => hS0 e.symm)
          have hb8 := hb7.grown hg8 hb7.size (fun j hj => by cases hj; exact zT)
          have hB8 := hB7.grown hg8 (by simpa using zS)
          have e8 := hB8.cell (i := 1) rfl
          obtain ⟨x0, x1, x2, x3, x4, x5, x6, x7, x8⟩ := b8.cells9
          obtain ⟨w9, hrun, hown, hgrow⟩ := World.ownsMap.update (show NOwn W8 w.heap.size A from hN8) kS Tryz.underlying149 hnl (keyS hzk) (val := Rec.val (Rec.plus ⟨nm', cpu', mem', a1', c1', xs', a2', c2', ys', cl', u, m, k'⟩ ⟨pod, node, cpu, mem, al⟩)) (d := .held (Rec.val (Rec.plus ⟨nm', cpu', mem', a1', c1', xs', a2', c2', ys', cl', u, m, k'⟩ ⟨pod, node, cpu, mem, al⟩))) (ps := []) rfl
          have hown := NOwn.put hown
          simp only [Rec.val, Rec.plus] at hrun
          clear hg8 b8 q0 q1 g6 g7 g8 f6 f7 f8 hS7 hB7 hQ7 hB8 hb7
          go_wp2
          go_roundw
          case rel =>
            refine ⟨k + 1, _, hlt, ?_, by go_num, e5, hown, ?_, hb8.grown hgrow hb8.size (fun j hj => by cases hj; exact Nat.le_refl _)⟩
            · rw [length_put sK hN7.apart]; split <;> omega
            · intro e he
              rcases (mem_put sK).1 he with rfl | ⟨he, _⟩
              · exact ⟨hpO, hpF⟩
              · exact hAo e he
          case measure => simp [intOf]; omega
        · have e5 : Hid (R = none) := by show _ = _; rw [H2.out, if_neg hfit]
          clear H2
          by_cases hov : u + cpu ≤ 9223372036854775807 ∧ m + mem ≤ 9223372036854775807
          · have hadd : addV u m cpu mem = .tuple #[.agg #[.int .i64 (u + cpu), .int .i64 (m + mem)], .int .i64 0] := by unfold addV; rw [if_pos hov]
            rw [hadd] at kA
            have kf := fun W => fits_any false (u + cpu) (m + mem) cpu' mem' (by simpa using hfit) W
            clear hadd hfit hov hcap hcap2
            go_wp2_with (first
              | (go_at_call 194; refine kA.mono ?_; rintro e w6 ⟨rfl, h6⟩; have hS6 := hS5.later h6; have v1 := (hS6.up (V (u + cpu) (m + mem))).cell (i := 1) rfl; have v2 := (hS6.up (V (u + cpu) (m + mem))).cell (i := 2) rfl)
              | (go_at_call 117; refine (kf _).mono ?_; rintro e w7 ⟨rfl, h7⟩))
            refine bodyPost_ret (by simp [results, Tryz.results151, go_sem]) rfl ⟨.inl ⟨e5.out, rfl⟩, ?_⟩
            have h67 : Below w6.heap.size w6 w7 := (up (Below.refl _ _) _).trans (h7.mono (by simp))
            exact hb5.trans ((h6.trans (h67.mono h6.size)).mono hb5.size)
          · have hadd : addV u m cpu mem = .tuple #[.agg #[.int .i64 0, .int .i64 0], .int .i64 6] := by unfold addV; rw [if_neg hov]
            rw [hadd] at kA
            clear hadd hfit hov hcap hcap2
            go_wp2_with (go_at_call 194; refine kA.mono ?_; rintro e w6 ⟨rfl, h6⟩)
            refine bodyPost_ret (by simp [results, Tryz.results151, go_sem]) rfl ⟨.inl ⟨e5.out, rfl⟩, ?_⟩
            exact up (hb5.trans (h6.mono hb5.size)) _
      | none =>
        rw [hla] at hlk
        have hle : (look E node).getD zrec = r := by rw [← hr]; unfold nowR; rw [hla]; rfl
        simp only [Option.getD_none, Option.isSome_none, zrec, Rec.val] at hlk
        have hI4 := hI1.later (up (Below.refl _ _) (.cells #[.string ByteArray.empty, .int .i64 0, .int .i64 0, .slice none 0 0, .slice none 0 0, .bool false, .int .i64 0, .int .i64 0, .int .i64 0] 161))
        have hN4 : NOwn (w3.alloc (.cells #[.string ByteArray.empty, .int .i64 0, .int .i64 0, .slice none 0 0, .slice none 0 0, .bool false, .int .i64 0, .int .i64 0, .int .i64 0] 161)) w.heap.size A := hN1.kept (Below.heap_alloc _ _ _ hN1.lt)
        have hB4 := hB1.up (.cells #[.string ByteArray.empty, .int .i64 0, .int .i64 0, .slice none 0 0, .slice none 0 0, .bool false, .int .i64 0, .int .i64 0, .int .i64 0] 161)
        have hS4 : Box (w3.alloc (.cells #[.string ByteArray.empty, .int .i64 0, .int .i64 0, .slice none 0 0, .slice none 0 0, .bool false, .int .i64 0, .int .i64 0, .int .i64 0] 161)) w3.heap.size #[.string ByteArray.empty, .int .i64 0, .int .i64 0, .slice none 0 0, .slice none 0 0, .bool false, .int .i64 0, .int .i64 0, .int .i64 0] 161 := Box.new w3 _ _ rfl
        have hb4 := up hb1 (.cells #[.string ByteArray.empty, .int .i64 0, .int .i64 0, .slice none 0 0, .slice none 0 0, .bool false, .int .i64 0, .int .i64 0, .int .i64 0] 161)
        go_upto_region 7 with fail
        have hBS : S < w3.heap.size := hB1.lt
        have hbL : L < w3.heap.size := hI1.box.lt
        have hbW : w.heap.size < w3.heap.size := hN1.lt
        have nS : ¬ fp w3.heap.size := hI1.outs
        generalize w3.alloc (.cells #[.string ByteArray.empty, .int .i64 0, .int .i64 0, .slice none 0 0, .slice none 0 0, .bool false, .int .i64 0, .int .i64 0, .int .i64 0] 161) = W4 at hI4 hN4 hB4 hS4 hb4 ⊢
        generalize w3.heap.size = T at hS4 hBS hbL hbW nS ⊢
        have l3 : (Instr.lookup 149 (.map p) (.string node) false).run Tryz.prog W4.drew = _ := (show NMap W4.drew p E from hI4.nodes).look1 node hzk
        rw [hle] at l3
        obtain ⟨nm', cpu', mem', a1', c1', xs', a2', c2', ys', cl', u, m, k'⟩ := r
        simp only [Rec.val] at l3
        have l1 : W4.cell? ⟨L, 0, none⟩ = some (.map p) := hI4.box.cell rfl
        have l2' : W4.cell? ⟨S, 1, none⟩ = some (.string node) := hB4.cell rfl
        obtain ⟨t0, t1, t2, t3, t4, t5, t6, t7, t8⟩ := hS4.cells9
        have f0 := hS4.frozen 0
        have f1 := hS4.frozen 1
        have f2 := hS4.frozen 2
        have f3 := hS4.frozen 3
        have f4 := hS4.frozen 4
        have f5 := hS4.frozen 5
        have f6 := hS4.frozen 6
        have f7 := hS4.frozen 7
        have f8 := hS4.frozen 8
        go_cut [] (fun wx => Box wx T #[.string nm', .int .i64 cpu', .int .i64 mem', .slice a1' xs'.length c1', .slice a2' ys'.length c2', .bool cl', .int .i64 u, .int .i64 m, .int .i64 k'] 161 ∧ Box wx S #[.string pod, .string node, .int .i64 cpu, .int .i64 mem, .bool al] 143 ∧ NOwn wx w.heap.size A ∧ IsL wx L fp p q E G ∧ Below w.heap.size w wx)
        case first =>
          go_region_with (fail)
          all_goals
            go_wp2
            go_meet
            case rel =>
              have hg := nine_grown W4 T (.string nm') (.int .i64 cpu') (.int .i64 mem') (.slice a1' xs'.length c1') (.slice a2' ys'.length c2') (.bool cl') (.int .i64 u) (.int .i64 m) (.int .i64 k')
              have hx := nine_box hS4 (.string nm') (.int .i64 cpu') (.int .i64 mem') (.slice a1' xs'.length c1') (.slice a2' ys'.length c2') (.bool cl') (.int .i64 u) (.int .i64 m) (.int .i64 k')
              unfold nine at hg hx
              generalize (((((((((W4.setCell ⟨T, 0, none⟩ (.string nm')).setCell ⟨T, 1, none⟩ (.int .i64 cpu')).setCell ⟨T, 2, none⟩ (.int .i64 mem')).setCell ⟨T, 3, none⟩ (.slice a1' xs'.length c1')).setCell ⟨T, 4, none⟩ (.slice a2' ys'.length c2')).setCell ⟨T, 5, none⟩ (.bool cl')).setCell ⟨T, 6, none⟩ (.int .i64 u)).setCell ⟨T, 7, none⟩ (.int .i64 m)).setCell ⟨T, 8, none⟩ (.int .i64 k')) = W9 at hg hx ⊢
              have hg : W4.grownBy W9.drew (some T) := grown_trans hg (below_grown (Below.drew (Below.refl _ _)) _)
              exact ⟨hx, hB4.grown hg (by simp; omega), hN4.grownO hg (by omega), hI4.grownO hg nS, hb4.grown hg hb4.size (fun j hj => by cases hj; omega)⟩
        case rest =>
          obtain ⟨hS5, hB5, hN5, hI5, hb5⟩ := hcut
          have hST : S ≠ T := Nat.ne_of_lt hBS
          clear hlk l2 hI1 hN1 hB1 hb1 hI4 hN4 hB4 hS4 hb4 l3 l1 l2' t0 t1 t2 t3 t4 t5 t6 t7 t8 f0 f1 f2 f3 f4 f5 f6 f7 f8 hle
          generalize wc = W5 at *
          clear hla
          have kA := add_any u m cpu mem ⟨hrO.2.u, hrO.2.m⟩ hqk ⟨hrO.2.cu, hrO.2.cm⟩ W5
          have y2 := hB5.cell (i := 2) rfl
          have y3 := hB5.cell (i := 3) rfl
          have t6 := hS5.cell (i := 6) rfl
          have t7 := hS5.cell (i := 7) rfl
          have hcap := hrO.2.cpu
          have hcap2 := hrO.2.mem
          simp only at hcap hcap2
          have hS0 : T ≠ w.heap.size := fun e => by
            obtain ⟨es, cc, hm⟩ := own_map hN5
            have := hS5
            unfold Box at this
            rw [e, hm] at this
            cases this
          have zT : w.heap.size ≤ T := by omega
          by_cases hfit : u + cpu ≤ cpu' ∧ m + mem ≤ mem'
          · have e5 : Hid (withF E (put sK A node (Rec.plus ⟨nm', cpu', mem', a1', c1', xs', a2', c2', ys', cl', u, m, k'⟩ ⟨pod, node, cpu, mem, al⟩)) (ps.drop (k + 1)) = R) := by
              show _ = _
              rw [H2.out, if_pos hfit]
            have hpO := hrO.1.plus ⟨pod, node, cpu, mem, al⟩
            have hpF := hrO.2.plus (q := ⟨pod, node, cpu, mem, al⟩) hqk hfit
            have hadd : addV u m cpu mem = .tuple #[.agg #[.int .i64 (u + cpu), .int .i64 (m + mem)], .int .i64 0] := by unfold addV; rw [if_pos (by omega)]
            rw [hadd] at kA
            have kf := fun W => fits_any true (u + cpu) (m + mem) cpu' mem' (by simpa using hfit) W
            have hnl : A.length < maxLen := by unfold maxLen; omega
            clear hadd H2
            go_upto_region 11 with (first
              | (go_at_call 194; refine kA.mono ?_; rintro e w6 ⟨rfl, h6⟩; have hS6 := hS5.later h6; have v1 := (hS6.up (V (u + cpu) (m + mem))).cell (i := 1) rfl; have v2 := (hS6.up (V (u + cpu) (m + mem))).cell (i := 2) rfl)
              | (go_at_call 117; refine (kf _).mono ?_; rintro e w7 ⟨rfl, h7⟩))
            have hS7 := (hS6.up (V (u + cpu) (m + mem))).later h7
            have hB7 := ((hB5.later h6).up (V (u + cpu) (m + mem))).later h7
            have hQ7 := (Box.new w6 #[.int .i64 (u + cpu), .int .i64 (m + mem)] 52 rfl).later h7
            have h67 : Below w6.heap.size w6 w7 := (up (Below.refl _ _) _).trans (h7.mono (by simp))
            have hN7 : NOwn w7 w.heap.size A := (hN5.kept (h6.block _ hN5.lt)).kept (h67.block _ (Nat.lt_of_lt_of_le hN5.lt h6.size))
            have hb7 : Below w.heap.size w w7 := hb5.trans ((h6.trans (h67.mono h6.size)).mono hb5.size)
            have zQ : T < w6.heap.size := hS6.lt
            generalize w6.heap.size = Q at hQ7 zQ ⊢
            have z1 : T ≠ Q := by omega
            have z2 : Q ≠ T := by omega
            have zS : S ≠ T := hST
            have zS' : T ≠ S := fun e => hST e.symm
            clear hS6 h6 h7 h67 kA kf y2 y3 t6 t7 v1 v2 hI5 hB5 hN5 hb5 hS5 hcap hcap2 hqk hrO zQ
            obtain ⟨q0, q1⟩ := hQ7.cells2
            have g8 := hS7.cell (i := 8) rfl
            have g6 := hS7.cell (i := 6) rfl
            have g7 := hS7.cell (i := 7) rfl
            have f6 := hS7.frozen 6
            have f7 := hS7.frozen 7
            have f8 := hS7.frozen 8
            go_upto_region 13 with fail
            have hg8 : w7.grownBy (((w7.setCell ⟨T, 6, none⟩ (.int .i64 (u + cpu))).setCell ⟨T, 7, none⟩ (.int .i64 (m + mem))).setCell ⟨T, 8, none⟩ (.int .i64 (wrap64 (k' + 1)))) (some T) := grown_trans (grown_trans (grown_set _ T 6 _) (grown_set _ T 7 _)) (grown_set _ T 8 _)
            have b8 := ((hS7.set 6 (.int .i64 (u + cpu))).set 7 (.int .i64 (m + mem))).set 8 (.int .i64 (wrap64 (k' + 1)))
            simp only [List.setIfInBounds_toArray, List.set_cons_succ, List.set_cons_zero] at b8
            generalize (((w7.setCell ⟨T, 6, none⟩ (.int .i64 (u + cpu))).setCell ⟨T, 7, none⟩ (.int .i64 (m + mem))).setCell ⟨T, 8, none⟩ (.int .i64 (wrap64 (k' + 1)))) = W8 at hg8 b8 ⊢
            have hN8 := hN7.grownO hg8 (fun e => hS0 e.symm)
            have hb8 := hb7.grown hg8 hb7.size (fun j hj => by cases hj; exact zT)
            have hB8 := hB7.grown hg8 (by simpa using zS)
            have e8 := hB8.cell (i := 1) rfl
            obtain ⟨x0, x1, x2, x3, x4, x5, x6, x7, x8⟩ := b8.cells9
            obtain ⟨w9, hrun, hown, hgrow⟩ := World.ownsMap.update (show NOwn W8 w.heap.size A from hN8) kS Tryz.underlying149 hnl (keyS hzk) (val := Rec.val (Rec.plus ⟨nm', cpu', mem', a1', c1', xs', a2', c2', ys', cl', u, m, k'⟩ ⟨pod, node, cpu, mem, al⟩)) (d := .held (Rec.val (Rec.plus ⟨nm', cpu', mem', a1', c1', xs', a2', c2', ys', cl', u, m, k'⟩ ⟨pod, node, cpu, mem, al⟩))) (ps := []) rfl
            have hown := NOwn.put hown
            simp only [Rec.val, Rec.plus] at hrun
            clear hg8 b8 q0 q1 g6 g7 g8 f6 f7 f8 hS7 hB7 hQ7 hB8 hb7
            go_wp2
            go_roundw
            case rel =>
              refine ⟨k + 1, _, hlt, ?_, by go_num, e5, hown, ?_, hb8.grown hgrow hb8.size (fun j hj => by cases hj; exact Nat.le_refl _)⟩
              · rw [length_put sK hN7.apart]; split <;> omega
              · intro e he
                rcases (mem_put sK).1 he with rfl | ⟨he, _⟩
                · exact ⟨hpO, hpF⟩
                · exact hAo e he
            case measure => simp [intOf]; omega
          · have e5 : Hid (R = none) := by show _ = _; rw [H2.out, if_neg hfit]
            clear H2
            by_cases hov : u + cpu ≤ 9223372036854775807 ∧ m + mem ≤ 9223372036854775807
            · have hadd : addV u m cpu mem = .tuple #[.agg #[.int .i64 (u + cpu), .int .i64 (m + mem)], .int .i64 0] := by unfold addV; rw [if_pos hov]
              rw [hadd] at kA
              have kf := fun W => fits_any false (u + cpu) (m + mem) cpu' mem' (by simpa using hfit) W
              clear hadd hfit hov hcap hcap2
              go_wp2_with (first
                | (go_at_call 194; refine kA.mono ?_; rintro e w6 ⟨rfl, h6⟩; have hS6 := hS5.later h6; have v1 := (hS6.up (V (u + cpu) (m + mem))).cell (i := 1) rfl; have v2 := (hS6.up (V (u + cpu) (m + mem))).cell (i := 2) rfl)
                | (go_at_call 117; refine (kf _).mono ?_; rintro e w7 ⟨rfl, h7⟩))
              refine bodyPost_ret (by simp [results, Tryz.results151, go_sem]) rfl ⟨.inl ⟨e5.out, rfl⟩, ?_⟩
              have h67 : Below w6.heap.size w6 w7 := (up (Below.refl _ _) _).trans (h7.mono (by simp))
              exact hb5.trans ((h6.trans (h67.mono h6.size)).mono hb5.size)
            · have hadd : addV u m cpu mem = .tuple #[.agg #[.int .i64 0, .int .i64 0], .int .i64 6] := by unfold addV; rw [if_neg hov]
              rw [hadd] at kA
              clear hadd hfit hov hcap hcap2
              go_wp2_with (go_at_call 194; refine kA.mono ?_; rintro e w6 ⟨rfl, h6⟩)
              refine bodyPost_ret (by simp [results, Tryz.results151, go_sem]) rfl ⟨.inl ⟨e5.out, rfl⟩, ?_⟩
              exact up (hb5.trans (h6.mono hb5.size)) _
    · have e1 : k = n := by omega
      have e2 : Hid (R = some A) := by show _ = _; rw [← HS.out, e1, List.drop_of_length_le (by omega)]; rfl
      clear hP hPr HS
      go_wp2
      refine bodyPost_ret (by simp [results, Tryz.results151, go_sem]) rfl ⟨.inr ⟨A, e2.out, rfl, hN, hAo⟩, hbw⟩

end Go.Proofs.YthneemgpifbehaaGreatDoor

/- The contract of Give of package ledger. -/
namespace Go.Proofs.YthneemgpifbehaaGreatDoor
open Go.RowKit Go.Maps

def Rec.minus (r : Rec) (q : Pl) : Rec := { r with u := r.u - q.cpu, m := r.m - q.mem, k := wrap64 (r.k - 1) }
def giveF : List (ByteArray × Rec) → List Pl → Option (List (ByteArray × Rec))
  | E, [] => some E
  | E, q :: t => match look E q.node with
    | none => none
    | some r => if q.cpu ≤ r.u ∧ q.mem ≤ r.m then giveF (put sK E q.node (r.minus q)) t else none
theorem Rec.Ok.minus {w : World} {fp : Nat → Prop} {r : Rec} (h : r.Ok w fp) (q : Pl) : (r.minus q).Ok w fp := ⟨h.h1, h.h2, h.f1, h.f2, h.s1, h.s2⟩
theorem Rec.Fair.minus {r : Rec} (h : r.Fair) {q : Pl} (hq : 0 ≤ q.cpu ∧ 0 ≤ q.mem) (hf : q.cpu ≤ r.u ∧ q.mem ≤ r.m) : (r.minus q).Fair := by
  obtain ⟨h1, h2, h3, h4, h5, h6⟩ := h
  exact ⟨by simp [Rec.minus]; omega, by simp [Rec.minus]; omega, by simp [Rec.minus]; omega, by simp [Rec.minus]; omega, h5, h6⟩

set_option maxRecDepth 100000 in
set_option maxHeartbeats 1000000 in
theorem give_none (w : World) (L : Nat) (fp : Nat → Prop) (p q : Option Nat) (E : List (ByteArray × Rec)) (G : List (Int × Grp)) (h : IsL w L fp p q E G) (g : Int) (hg : (Lit.int .i64 g).wf = true) (hn : look G g = none) :
    Calls Tryz.prog 114 #[.pointer (some ⟨L, 0, none⟩), .int .i64 g] w fun e w' => e = .returned (.int .i64 5) ∧ w' = w := by
  have hlk := h.gangs.look2 g hg
  rw [hn] at hlk
  simp only [Option.getD_none, Option.isSome_none, zgrp, Grp.val] at hlk
  have c0 := h.box.cell (i := 1) rfl
  clear h
  go_enter Tryz.func114, Tryz.ntmps114
  go_wp2
  go_ret
  exact ⟨rfl, rfl⟩

set_option maxRecDepth 100000 in
set_option maxHeartbeats 8000000 in
theorem give_some (w : World) (L : Nat) (fp : Nat → Prop) (p q : Option Nat) (E E' : List (ByteArray × Rec)) (G : List (Int × Grp)) (h : IsL w L fp p q E G) (g : Int) (hg : (Lit.int .i64 g).wf = true) (a : Option Addr) (c : Nat) (ps : List Pl) (hn : look G g = some ⟨a, c, ps⟩)
    (hE : giveF E ps = some E') (hF : ∀ e ∈ E, e.2.Fair) (hz : ∀ p ∈ ps, p.node.size ≤ maxLen) (hq : ∀ p ∈ ps, 0 ≤ p.cpu ∧ 0 ≤ p.mem) (hlen : E.length ≤ 1000) :
    Calls Tryz.prog 114 #[.pointer (some ⟨L, 0, none⟩), .int .i64 g] w fun e w' => e = .returned (.int .i64 0) ∧ IsL w' L fp p q E' (del G g) ∧ Kept fp w w' := by
  have hlk := h.gangs.look2 g hg
  have hmG := mem_of_look hn
  rw [hn] at hlk
  simp only [Option.getD_some, Option.isSome_some, Grp.val] at hlk
  have c0 := h.box.cell (i := 1) rfl
  have hps : ps.length ≤ 1000 := (h.okG _ hmG).h.1
  have HS0 : Hid (giveF E (ps.drop 0) = some E') := by show _ = _; simpa using hE
  obtain ⟨n, hnn⟩ : ∃ n, ps.length = n := ⟨_, rfl⟩
  rw [hnn] at hlk hps
  go_enter Tryz.func114, Tryz.ntmps114
  go_wp2
  go_loopw [23] (fun i wr => ∃ (k : Nat) (Ek : List (ByteArray × Rec)), k ≤ n ∧ i = .int .i64 k ∧ Hid (giveF Ek (ps.drop k) = some E') ∧ IsL wr L fp p q Ek G ∧ (∀ e ∈ Ek, e.2.Fair) ∧ Ek.length ≤ 1000 ∧ Kept fp w wr) (fun i _ => n - (intOf i).toNat)
  case atStart => exact ⟨0, E, Nat.zero_le _, rfl, HS0, h, hF, hlen, .refl _ _⟩
  case round =>
    obtain ⟨k, Ek, hk, rfl, HS, hI, hFk, hlk2, hkw⟩ := hrel
    clear HS0 hlk c0
    have hPr := (hI.okG _ hmG).h
    by_cases hlt : k < n
    · obtain ⟨B, o, hao, hat⟩ := hPr.2 k _ (List.getElem?_eq_getElem (by simp only; omega))
      simp only at hao hat
      subst hao
      have hd := pls_drop ps k (by omega)
      have hzk := hz ps[k] (List.getElem_mem _)
      have hqk := hq ps[k] (List.getElem_mem _)
      obtain ⟨p', hp⟩ : ∃ p, ps[k] = p := ⟨_, rfl⟩
      rw [hp] at hat hd hzk hqk
      obtain ⟨pod, node, cpu, mem, al⟩ := p'
      obtain ⟨d0, d1, d2, d3, d4⟩ := hat
      simp only at d0 d1 d2 d3 d4 hzk hqk
      have H2 := HS.out
      rw [hd] at H2
      simp only [giveF] at H2
      cases hle : look Ek node with
      | none => rw [hle] at H2; cases H2
      | some r =>
        rw [hle] at H2
        simp only at H2
        split at H2
        case isFalse => cases H2
        case isTrue hfit =>
        have H3 : Hid (giveF (put sK Ek node (r.minus ⟨pod, node, cpu, mem, al⟩)) (ps.drop (k + 1)) = some E') := H2
        clear H2 HS hd hp hPr
        have hrO := hI.okE _ (mem_of_look hle)
        have hrF := hFk _ (mem_of_look hle)
        obtain ⟨b, rfl, hN⟩ : ∃ b, p = some b ∧ NOwn wr b Ek := by
          rcases hI.nodes with ⟨_, h0⟩ | hh
          · subst h0; cases hle
          · exact hh
        have hI1 : IsL (wr.alloc (.cells #[.string pod, .string node, .int .i64 cpu, .int .i64 mem, .bool al] 143)) L fp (some b) q Ek G := hI.later (up (Below.refl _ _) _)
        have hB1 : Box (wr.alloc (.cells #[.string pod, .string node, .int .i64 cpu, .int .i64 mem, .bool al] 143)) wr.heap.size #[.string pod, .string node, .int .i64 cpu, .int .i64 mem, .bool al] 143 := Box.new wr _ _ rfl
        have hk1 : Kept fp w (wr.alloc (.cells #[.string pod, .string node, .int .i64 cpu, .int .i64 mem, .bool al] 143)) := hkw.trans (.of_below (up (Below.refl _ _) _))
        have nS : ¬ fp wr.heap.size := hI.outs
        go_upto_region 7 with fail
        generalize (wr.alloc (.cells #[.string pod, .string node, .int .i64 cpu, .int .i64 mem, .bool al] 143)) = w3 at hI1 hB1 hk1 ⊢
        generalize wr.heap.size = S at hB1 nS ⊢
        have hrO3 : r.Ok w3 fp := hI1.okE _ (mem_of_look hle)
        clear d0 d1 d2 d3 d4 hI hN hkw hrO
        have l1 : w3.cell? ⟨L, 0, none⟩ = some (.map (some b)) := hI1.box.cell rfl
        have l2 : w3.cell? ⟨S, 1, none⟩ = some (.string node) := hB1.cell rfl
        have l3' : (Instr.lookup 149 (.map (some b)) (.string node) false).run Tryz.prog w3.drew = _ := (show NMap w3.drew (some b) Ek from hI1.nodes).look1 node hzk
        have l3a : ∀ o, (Instr.lookup 149 (.map (some b)) (.string node) false).run Tryz.prog (w3.alloc o).drew = _ := fun o => (show NMap (w3.alloc o).drew (some b) Ek from (hI1.later (up (Below.refl _ _) o)).nodes).look1 node hzk
        rw [hle, Option.getD_some] at l3'
        simp only [hle, Option.getD_some] at l3a
        obtain ⟨nm', cpu', mem', a1', c1', xs', a2', c2', ys', cl', u, m, k'⟩ := r
        simp only [Rec.val] at l3' l3a
        have l1a := fun o => cell_alloc l1 o
        have l2a := fun o => cell_alloc l2 o
        go_cut [9] (fun v6 wx => v6 = .pointer (some ⟨w3.heap.size, 0, none⟩) ∧ wx = (w3.alloc (.cells #[.string nm', .int .i64 cpu', .int .i64 mem', .slice a1' xs'.length c1', .slice a2' ys'.length c2', .bool cl', .int .i64 u, .int .i64 m, .int .i64 k'] 161)).drew)
        case first =>
          go_region_with (fail)
          all_goals
            go_wp2
            go_meet
            case rel => exact ⟨rfl, rfl⟩
        case rest =>
          obtain ⟨rfl, rfl⟩ := hcut
          have hI4 : IsL (w3.alloc (.cells #[.string nm', .int .i64 cpu', .int .i64 mem', .slice a1' xs'.length c1', .slice a2' ys'.length c2', .bool cl', .int .i64 u, .int .i64 m, .int .i64 k'] 161)).drew L fp (some b) q Ek G := hI1.later (Below.drew (up (Below.refl _ _) _))
          have hB4 : Box (w3.alloc (.cells #[.string nm', .int .i64 cpu', .int .i64 mem', .slice a1' xs'.length c1', .slice a2' ys'.length c2', .bool cl', .int .i64 u, .int .i64 m, .int .i64 k'] 161)).drew S #[.string pod, .string node, .int .i64 cpu, .int .i64 mem, .bool al] 143 := hB1.up _
          have hS4 : Box (w3.alloc (.cells #[.string nm', .int .i64 cpu', .int .i64 mem', .slice a1' xs'.length c1', .slice a2' ys'.length c2', .bool cl', .int .i64 u, .int .i64 m, .int .i64 k'] 161)).drew w3.heap.size #[.string nm', .int .i64 cpu', .int .i64 mem', .slice a1' xs'.length c1', .slice a2' ys'.length c2', .bool cl', .int .i64 u, .int .i64 m, .int .i64 k'] 161 := Box.new w3 _ _ rfl
          have hk4 : Kept fp w (w3.alloc (.cells #[.string nm', .int .i64 cpu', .int .i64 mem', .slice a1' xs'.length c1', .slice a2' ys'.length c2', .bool cl', .int .i64 u, .int .i64 m, .int .i64 k'] 161)).drew := hk1.trans (.of_below (Below.drew (up (Below.refl _ _) _)))
          have nT : ¬ fp w3.heap.size := hI1.outs
          have hST : S < w3.heap.size := hB1.lt
          have zT : w.heap.size ≤ w3.heap.size := hk1.size
          generalize (w3.alloc (.cells #[.string nm', .int .i64 cpu', .int .i64 mem', .slice a1' xs'.length c1', .slice a2' ys'.length c2', .bool cl', .int .i64 u, .int .i64 m, .int .i64 k'] 161)).drew = W4 at hI4 hB4 hS4 hk4 ⊢
          generalize w3.heap.size = T at hS4 nT hST zT ⊢
          clear l1 l2 l3' l3a l1a l2a hI1 hB1 hk1 hrO3
          have hpF := hrF.minus (q := ⟨pod, node, cpu, mem, al⟩) hqk hfit
          have kA := sub_any u m cpu mem ⟨hrF.u, hrF.m⟩ hqk ⟨hrF.cu, hrF.cm⟩ hfit W4
          have y2 := hB4.cell (i := 2) rfl
          have y3 := hB4.cell (i := 3) rfl
          have t6 := hS4.cell (i := 6) rfl
          have t7 := hS4.cell (i := 7) rfl
          have zS : S ≠ T := by omega
          have zS' : T ≠ S := by omega
          clear hrF hfit
          go_upto_region 10 with (go_at_call 153; refine kA.mono ?_; rintro e w6 ⟨rfl, h6⟩; have hS6 := hS4.later h6; have v6 := hS6.cell (i := 6) rfl; have v7 := hS6.cell (i := 7) rfl; have v8 := hS6.cell (i := 8) rfl; have f6 := hS6.frozen 6; have f7 := hS6.frozen 7; have f8 := hS6.frozen 8)
          have hI6 := hI4.later h6
          have hB6 := hB4.later h6
          have hk6 : Kept fp w w6 := hk4.trans (.of_below h6)
          have hg8 : w6.grownBy (((w6.setCell ⟨T, 6, none⟩ (.int .i64 (u - cpu))).setCell ⟨T, 7, none⟩ (.int .i64 (m - mem))).setCell ⟨T, 8, none⟩ (.int .i64 (wrap64 (k' - 1)))) (some T) := grown_trans (grown_trans (grown_set _ T 6 _) (grown_set _ T 7 _)) (grown_set _ T 8 _)
          have b8 := ((hS6.set 6 (.int .i64 (u - cpu))).set 7 (.int .i64 (m - mem))).set 8 (.int .i64 (wrap64 (k' - 1)))
          simp only [List.setIfInBounds_toArray, List.set_cons_succ, List.set_cons_zero] at b8
          generalize (((w6.setCell ⟨T, 6, none⟩ (.int .i64 (u - cpu))).setCell ⟨T, 7, none⟩ (.int .i64 (m - mem))).setCell ⟨T, 8, none⟩ (.int .i64 (wrap64 (k' - 1)))) = W8 at hg8 b8 ⊢
          have hI8 := hI6.grownO hg8 nT
          have hB8 := hB6.grown hg8 (by simpa using zS)
          have hk8 : Kept fp w W8 := ⟨hg8.os.trans hk6.os, hg8.tape.trans hk6.tape, hg8.output.trans hk6.output, Nat.le_trans hk6.size hg8.size, fun x hx hn => (hg8.block x (Nat.lt_of_lt_of_le hx hk6.size) (by intro e; cases e; omega)).trans (hk6.block x hx hn)⟩
          obtain ⟨b', hb', hN8⟩ := hI8.nodes.resolve_left (by simp)
          cases hb'
          have hrO8 := hI8.okE _ (mem_of_look hle)
          obtain ⟨w9, hrun, hown, hgrow⟩ := World.ownsMap.update (show NOwn W8.drew b Ek from hN8) kS Tryz.underlying149 (by unfold maxLen; omega) (keyS hzk) (val := Rec.val (Rec.minus ⟨nm', cpu', mem', a1', c1', xs', a2', c2', ys', cl', u, m, k'⟩ ⟨pod, node, cpu, mem, al⟩)) (d := .held (Rec.val (Rec.minus ⟨nm', cpu', mem', a1', c1', xs', a2', c2', ys', cl', u, m, k'⟩ ⟨pod, node, cpu, mem, al⟩))) (ps := []) rfl
          have hown := NOwn.put hown
          have hgrow : W8.grownBy w9 (some b) := grown_trans (below_grown (Below.drew (Below.refl _ _)) _) hgrow
          simp only [Rec.val, Rec.minus] at hrun
          have c8 : W8.cell? ⟨L, 0, none⟩ = some (.map (some b)) := hI8.box.cell rfl
          have e8 := hB8.cell (i := 1) rfl
          obtain ⟨x0, x1, x2, x3, x4, x5, x6, x7, x8⟩ := b8.cells9
          have hap := hN8.apart
          have hI9 := hI8.putN hown hgrow (hrO8.minus ⟨pod, node, cpu, mem, al⟩)
          have hk9 : Kept fp w w9 := hk8.trans (.of_grown hgrow (hI8.fp1 b rfl))
          clear hI4 hB4 hS4 hk4 kA y2 y3 t6 t7 h6 hS6 v6 v7 v8 f6 f7 f8 hI6 hB6 hk6 hg8 hI8 hB8 b8 hN8 hrO8 hk8
          go_region_with (fail)
          all_goals
            go_wp2
            go_roundw
            case rel =>
              refine ⟨k + 1, _, hlt, by go_num, H3, hI9, ?_, ?_, hk9⟩
              · intro e he
                rcases (mem_put sK).1 he with rfl | ⟨he, _⟩
                · exact hpF
                · exact hFk e he
              · rw [length_put sK hap, hle]; simpa using hlk2
            case measure => simp [intOf]; omega
    · have e1 : k = n := by omega
      have e2 : Ek = E' := by
        have := HS.out
        rw [e1, List.drop_of_length_le (by omega)] at this
        simpa [giveF] using this
      clear hPr HS e1 hE
      subst e2
      obtain ⟨cq, rfl, hGo⟩ : ∃ b, q = some b ∧ GOwn wr b G := by
        rcases hI.gangs with ⟨_, h0⟩ | hh
        · subst h0; cases hmG
        · exact hh
      have c1 : wr.cell? ⟨L, 1, none⟩ = some (.map (some cq)) := hI.box.cell rfl
      go_wp2_with (first
        | (at_delete; refine wpList_delete_own _ rfl _ _ 150 3 rfl 50 kI Tryz.underlying150 raw cq _ _ rfl hGo _ _ rfl (keyI hg) ?_; intro w1 hown1 hturn1; go_frame)
        | go_in)
      go_ret
      have hg1 := hturn1.grown
      exact ⟨rfl, hI.delG (GOwn.del hown1) hg1, hkw.trans (.of_grown hg1 (hI.fp2 cq rfl))⟩

end Go.Proofs.YthneemgpifbehaaGreatDoor

/- The contract of Put of package ledger. -/
namespace Go.Proofs.YthneemgpifbehaaGreatDoor
open Go.RowKit Go.Maps

/-- What Put answers. -/
def putE (E : List (ByteArray × Rec)) (s : ByteArray) (cpu mem : Int) (xs ys : List ByteArray) : Int :=
  if nodeE s cpu mem xs ys ≠ 0 then nodeE s cpu mem xs ys
  else if ¬ (((look E s).getD zrec).u ≤ cpu ∧ ((look E s).getD zrec).m ≤ mem) then 6
  else if look E s = none ∧ 8 ≤ E.length then 3 else 0

/-- What Put leaves: A is what it answers, r what is known of the node. -/
def PutPost (w : World) (L : Nat) (fp : Nat → Prop) (E : List (ByteArray × Rec)) (G : List (Int × Grp)) (s : ByteArray) (cpu mem : Int) (xs ys : List ByteArray) (al : Bool) (A : Int) (r : Rec) (w' : World) : Prop :=
  ∃ fp' p' q' a3 c3 a4 c4, IsL w' L fp' p' q' (if A = 0 then put sK E s ⟨s, cpu, mem, a3, c3, xs, a4, c4, ys, al, r.u, r.m, r.k⟩ else E) G ∧ (∀ b, fp b → fp' b) ∧ (∀ b, fp' b → fp b ∨ w.heap.size ≤ b) ∧ Kept fp w w' ∧ (A ≠ 0 → Below w.heap.size w w')
theorem PutPost.no {w w' : World} {L : Nat} {fp : Nat → Prop} {p q : Option Nat} {E : List (ByteArray × Rec)} {G : List (Int × Grp)} {s : ByteArray} {cpu mem : Int} {xs ys : List ByteArray} {al : Bool} {A : Int} {r : Rec} (h : IsL w L fp p q E G) (hA : A ≠ 0) (hb : Below w.heap.size w w') : PutPost w L fp E G s cpu mem xs ys al A r w' :=
  ⟨fp, p, q, none, 0, none, 0, by rw [if_neg hA]; exact h.later hb, fun _ h => h, fun _ h => .inl h, .of_below hb, fun _ => hb⟩

/-- Six cells of one block, stored. -/
theorem six_kept (W : World) (S : Nat) (s : ByteArray) (cpu mem : Int) (v3 v4 : Value) (al : Bool) : ∀ b, b ≠ S → ((((((W.setCell ⟨S, 0, none⟩ (.string s)).setCell ⟨S, 1, none⟩ (.int .i64 cpu)).setCell ⟨S, 2, none⟩ (.int .i64 mem)).setCell ⟨S, 3, none⟩ v3).setCell ⟨S, 4, none⟩ v4).setCell ⟨S, 5, none⟩ (.bool al)).heap[b]? = W.heap[b]? := fun b hb => by
  rw [RowKit.Below.heap_setCell _ _ _ _ hb, RowKit.Below.heap_setCell _ _ _ _ hb, RowKit.Below.heap_setCell _ _ _ _ hb, RowKit.Below.heap_setCell _ _ _ _ hb, RowKit.Below.heap_setCell _ _ _ _ hb, RowKit.Below.heap_setCell _ _ _ _ hb]
theorem six_size (W : World) (S : Nat) (s : ByteArray) (cpu mem : Int) (v3 v4 : Value) (al : Bool) : ((((((W.setCell ⟨S, 0, none⟩ (.string s)).setCell ⟨S, 1, none⟩ (.int .i64 cpu)).setCell ⟨S, 2, none⟩ (.int .i64 mem)).setCell ⟨S, 3, none⟩ v3).setCell ⟨S, 4, none⟩ v4).setCell ⟨S, 5, none⟩ (.bool al)).heap.size = W.heap.size := by simp
theorem set_rest (W : World) (S j : Nat) (v : Value) : (W.setCell ⟨S, j, none⟩ v).os = W.os ∧ (W.setCell ⟨S, j, none⟩ v).tape = W.tape ∧ (W.setCell ⟨S, j, none⟩ v).output = W.output := by
  have := grown_set W S j v
  exact ⟨this.os, this.tape, this.output⟩
theorem six_rest (W : World) (S : Nat) (s : ByteArray) (cpu mem : Int) (v3 v4 : Value) (al : Bool) : ((((((W.setCell ⟨S, 0, none⟩ (.string s)).setCell ⟨S, 1, none⟩ (.int .i64 cpu)).setCell ⟨S, 2, none⟩ (.int .i64 mem)).setCell ⟨S, 3, none⟩ v3).setCell ⟨S, 4, none⟩ v4).setCell ⟨S, 5, none⟩ (.bool al)).os = W.os ∧ ((((((W.setCell ⟨S, 0, none⟩ (.string s)).setCell ⟨S, 1, none⟩ (.int .i64 cpu)).setCell ⟨S, 2, none⟩ (.int .i64 mem)).setCell ⟨S, 3, none⟩ v3).setCell ⟨S, 4, none⟩ v4).setCell ⟨S, 5, none⟩ (.bool al)).tape = W.tape ∧ ((((((W.setCell ⟨S, 0, none⟩ (.string s)).setCell ⟨S, 1, none⟩ (.int .i64 cpu)).setCell ⟨S, 2, none⟩ (.int .i64 mem)).setCell ⟨S, 3, none⟩ v3).setCell ⟨S, 4, none⟩ v4).setCell ⟨S, 5, none⟩ (.bool al)).output = W.output := by
  simp only [(set_rest _ _ _ _).1, (set_rest _ _ _ _).2.1, (set_rest _ _ _ _).2.2, and_self]

/-- What stays in a drawn region of Put. -/
def StayP (w0 : World) (L : Nat) (fp : Nat → Prop) (p q : Option Nat) (E : List (ByteArray × Rec)) (G : List (Int × Grp)) (s : ByteArray) (B : Nat) (cs : Array Value) (w : World) : Prop :=
  w.cell? ⟨L, 0, none⟩ = some (.map p) ∧ w.cell? ⟨B, 0, none⟩ = some (.string s) ∧
  (Instr.lookup 149 (.map p) (.string s) true).run Tryz.prog w = .ok (.tuple #[((look E s).getD zrec).val, .bool (look E s).isSome]) w ∧ IsL w L fp p q E G ∧ Box w B cs 55 ∧ Below w0.heap.size w0 w
theorem StayP.mk {w0 : World} {L : Nat} {fp : Nat → Prop} {p q : Option Nat} {E : List (ByteArray × Rec)} {G : List (Int × Grp)} {s : ByteArray} {B : Nat} {cs : Array Value} {w : World} (hs : s.size ≤ maxLen) (h : IsL w L fp p q E G) (hB : Box w B cs 55) (hc : cs[0]? = some (.string s)) (hb : Below w0.heap.size w0 w) : StayP w0 L fp p q E G s B cs w :=
  ⟨h.box.cell rfl, hB.cell hc, h.nodes.look2 s hs, h, hB, hb⟩

set_option maxRecDepth 100000 in
set_option maxHeartbeats 2000000 in
theorem put_any (w : World) (L : Nat) (fp : Nat → Prop) (p q : Option Nat) (E : List (ByteArray × Rec)) (G : List (Int × Grp)) (h : IsL w L fp p q E G)
    (s : ByteArray) (cpu mem : Int) (a1 a2 : Option Addr) (n1 n2 c1 c2 : Nat) (al : Bool) (xs ys : List ByteArray) (hs : s.size ≤ maxLen) (h1 : Strs w a1 xs) (h2 : Strs w a2 ys) (e1 : xs.length = n1) (e2 : ys.length = n2) (s1 : SP a1) (s2 : SP a2)
    (f1 : ∀ x, a1 = some x → xs ≠ [] → ¬ fp x.block) (f2 : ∀ x, a2 = some x → ys ≠ [] → ¬ fp x.block) (hlen : E.length < maxLen) :
    Calls Tryz.prog 60 #[.pointer (some ⟨L, 0, none⟩), .agg #[.string s, .int .i64 cpu, .int .i64 mem, .slice a1 n1 c1, .slice a2 n2 c2, .bool al]] w fun e w' => e = .returned (.int .i64 (putE E s cpu mem xs ys)) ∧
      PutPost w L fp E G s cpu mem xs ys al (putE E s cpu mem xs ys) ((look E s).getD zrec) w' := by
  subst e1 e2
  have kn := node_any s cpu mem a1 a2 xs.length ys.length c1 c2 al xs ys (w.alloc (.cells #[.string s, .int .i64 cpu, .int .i64 mem, .slice a1 xs.length c1, .slice a2 ys.length c2, .bool al] 55)) (h1.later (up (Below.refl _ _) _)) (h2.later (up (Below.refl _ _) _)) rfl rfl
  obtain ⟨N, hN⟩ : ∃ N, nodeE s cpu mem xs ys = N := ⟨_, rfl⟩
  rw [hN] at kn
  by_cases hN0 : N = 0
  case neg =>
    have e5 : putE E s cpu mem xs ys = N := by unfold putE; rw [hN, if_pos hN0]
    rw [e5]
    clear e5
    go_enter Tryz.func60, Tryz.ntmps60
    go_wp2_with (go_at_call 101; refine kn.mono ?_; rintro e w3 ⟨rfl, h3⟩)
    go_ret
    have hb : Below w.heap.size w w3 := (up (Below.refl _ _) _).trans (h3.mono (by simp))
    exact ⟨rfl, .no h hN0 hb⟩
  subst hN0
  obtain ⟨r, hr⟩ : ∃ r, (look E s).getD zrec = r := ⟨_, rfl⟩
  obtain ⟨A, hA⟩ : ∃ A, putE E s cpu mem xs ys = A := ⟨_, rfl⟩
  rw [hA, hr]
  have hA : Hid (putE E s cpu mem xs ys = A) := hA
  obtain ⟨t, ht⟩ : ∃ t, (look E s).isSome = t := ⟨_, rfl⟩
  go_enter Tryz.func60, Tryz.ntmps60
  go_wp2_with (go_at_call 101; refine kn.mono ?_; rintro e w3 ⟨rfl, h3⟩)
  have hB : Box w3 w.heap.size #[.string s, .int .i64 cpu, .int .i64 mem, .slice a1 xs.length c1, .slice a2 ys.length c2, .bool al] 55 := (Box.new w _ _ rfl).later h3
  have hb : Below w.heap.size w w3 := (up (Below.refl _ _) _).trans (h3.mono (by simp))
  have hS : StayP w L fp p q E G s w.heap.size #[.string s, .int .i64 cpu, .int .i64 mem, .slice a1 xs.length c1, .slice a2 ys.length c2, .bool al] w3 := .mk hs (h.later hb) hB rfl hb
  unfold StayP at hS
  rw [hr, ht] at hS
  obtain ⟨nm', cpu', mem', a1', c1', xs', a2', c2', ys', cl', u, m, k⟩ := r
  simp only [Rec.val] at hS
  obtain ⟨l1, l2, l3, l4, l5, l6⟩ := hS
  have l3' : (Instr.lookup 149 (.map p) (.string s) true).run Tryz.prog w3.drew = _ := (show NMap w3.drew p E from l4.nodes).look2 s hs
  have l3a : ∀ o, (Instr.lookup 149 (.map p) (.string s) true).run Tryz.prog (w3.alloc o).drew = _ := fun o => (show NMap (w3.alloc o).drew p E from (l4.later (up (Below.refl _ _) o)).nodes).look2 s hs
  rw [hr, ht] at l3'
  simp only [hr, ht] at l3a
  simp only [Rec.val] at l3' l3a
  have l1a := fun o => cell_alloc l1 o
  have l2a := fun o => cell_alloc l2 o
  go_cut [6, 7] (fun v6 v7 wx => v6 = .pointer (some ⟨w3.heap.size, 0, none⟩) ∧ v7 = .bool t ∧ wx = (w3.alloc (.cells #[.string nm', .int .i64 cpu', .int .i64 mem', .slice a1' xs'.length c1', .slice a2' ys'.length c2', .bool cl', .int .i64 u, .int .i64 m, .int .i64 k] 161)).drew)
  case first =>
    go_region_with (fail)
    all_goals
      go_wp2
      go_meet
      case rel => exact ⟨rfl, rfl, rfl⟩
  case rest =>
    obtain ⟨rfl, rfl, rfl⟩ := hcut
    have hI4 : IsL (w3.alloc (.cells #[.string nm', .int .i64 cpu', .int .i64 mem', .slice a1' xs'.length c1', .slice a2' ys'.length c2', .bool cl', .int .i64 u, .int .i64 m, .int .i64 k] 161)).drew L fp p q E G := l4.later (Below.drew (up (Below.refl _ _) _))
    have hB4 : Box (w3.alloc (.cells #[.string nm', .int .i64 cpu', .int .i64 mem', .slice a1' xs'.length c1', .slice a2' ys'.length c2', .bool cl', .int .i64 u, .int .i64 m, .int .i64 k] 161)).drew w.heap.size #[.string s, .int .i64 cpu, .int .i64 mem, .slice a1 xs.length c1, .slice a2 ys.length c2, .bool al] 55 := l5.up _
    have hS4 : Box (w3.alloc (.cells #[.string nm', .int .i64 cpu', .int .i64 mem', .slice a1' xs'.length c1', .slice a2' ys'.length c2', .bool cl', .int .i64 u, .int .i64 m, .int .i64 k] 161)).drew w3.heap.size #[.string nm', .int .i64 cpu', .int .i64 mem', .slice a1' xs'.length c1', .slice a2' ys'.length c2', .bool cl', .int .i64 u, .int .i64 m, .int .i64 k] 161 := Box.new w3 _ _ rfl
    have hb4 : Below w.heap.size w (w3.alloc (.cells #[.string nm', .int .i64 cpu', .int .i64 mem', .slice a1' xs'.length c1', .slice a2' ys'.length c2', .bool cl', .int .i64 u, .int .i64 m, .int .i64 k] 161)).drew := Below.drew (up l6 _)
    have hSB : w.heap.size < w3.heap.size := l5.lt
    generalize (w3.alloc (.cells #[.string nm', .int .i64 cpu', .int .i64 mem', .slice a1' xs'.length c1', .slice a2' ys'.length c2', .bool cl', .int .i64 u, .int .i64 m, .int .i64 k] 161)).drew = W4 at hI4 hB4 hS4 hb4 ⊢
    generalize w3.heap.size = S at hS4 hSB ⊢
    clear l1 l2 l3 l4 l5 l6 l3' l3a l1a l2a h3 hB hb kn
    obtain ⟨f, hf⟩ : ∃ f, decide (u ≤ cpu ∧ m ≤ mem) = f := ⟨_, rfl⟩
    have kf := fits_any f u m cpu mem hf W4
    have d1 := hB4.cell (i := 1) rfl
    have d2 := hB4.cell (i := 2) rfl
    have g6 := hS4.cell (i := 6) rfl
    have g7 := hS4.cell (i := 7) rfl
    cases f with
    | false =>
      have e5 : Hid (A = 6) := by
        show _ = _
        rw [← hA.out]
        unfold putE
        rw [hN, hr]
        simp only [decide_eq_false_iff_not] at hf
        simp [hf]
      go_wp2_with (go_at_call 117; refine kf.mono ?_; rintro e w5 ⟨rfl, h5⟩)
      go_ret
      have hb : Below w.heap.size w w5 := hb4.trans (h5.mono hb4.size)
      exact ⟨by rw [e5.out]; rfl, .no h (by rw [e5.out]; decide) hb⟩
    | true =>
      have hf' : u ≤ cpu ∧ m ≤ mem := by simpa using hf
      have hA2 : Hid (A = if t = false ∧ 8 ≤ E.length then 3 else 0) := by
        show _ = _
        rw [← hA.out]
        unfold putE
        rw [hN, hr]
        have : (look E s = none) = (t = false) := by rw [← ht]; simp
        simp only [this, hf', and_self, not_true_eq_false, if_false, ne_eq]
      clear hA
      go_upto_if 28 with (go_at_call 117; refine kf.mono ?_; rintro e w5 ⟨rfl, h5⟩)
      have hI5 := hI4.later h5
      have hB5 := hB4.later h5
      have hS5 := hS4.later h5
      have hb5 : Below w.heap.size w w5 := hb4.trans (h5.mono hb4.size)
      have z5 := hS5.lt
      clear hI4 hB4 hS4 hb4 h5 kf d1 d2 g6 g7 hf
      have c5 : w5.cell? ⟨L, 0, none⟩ = some (.map p) := hI5.box.cell rfl
      have n5 := fun ty => hI5.nodes.len ty
      by_cases hx : t = false ∧ 8 ≤ E.length
      · obtain ⟨rfl, hx⟩ := hx
        have e5 : Hid (A = 3) := by show _ = _; rw [hA2.out]; simp [hx]
        have hx' : (8 : Int) ≤ (E.length : Int) := by omega
        go_wp2
        go_ret
        exact ⟨by rw [e5.out]; rfl, .no h (by rw [e5.out]; decide) hb5⟩
      · have e5 : Hid (A = 0) := by show _ = _; rw [hA2.out, if_neg hx]
        have ko := open_any w5 L fp p q E G hI5
        have nB : ¬ fp w.heap.size := h.outs
        have nS : ¬ fp S := fun hf => by have := h.lt S hf; omega
        clear hA2
        have hx2 : t = true ∨ (t = false ∧ (E.length : Int) < 8) := by
          cases t
          · exact .inr ⟨rfl, by simp at hx; omega⟩
          · exact .inl rfl
        clear hx
        rcases hx2 with rfl | ⟨rfl, hx3⟩
        all_goals
          go_upto_region 10 with (go_at_call 118; refine ko.mono ?_; rintro e w6 ⟨rfl, fp6, b6, q6, hI6, hm6, hn6, hk6⟩)
          have hB6 := hk6.box hB5 nB
          have hS6 := hk6.box hS5 nS
          have z6 := hk6.size
          have nB6 : ¬ fp6 w.heap.size := fun hf => by rcases hn6 _ hf with hf | hf; exact nB hf; omega
          have nS6 : ¬ fp6 S := fun hf => by rcases hn6 _ hf with hf | hf; exact nS hf; omega
          obtain ⟨y0, y1, y2, y3, y4, y5⟩ := hB6.cells6
          have hSs : Strs w6 a1 xs := (h1.later hb5).frame fun x hx hne => hk6.block _ ((h1.later hb5).lt hx hne) (f1 x hx hne)
          have hSt : Strs w6 a2 ys := (h2.later hb5).frame fun x hx hne => hk6.block _ ((h2.later hb5).lt hx hne) (f2 x hx hne)
          have kr := fresh_any s cpu mem a1 a2 xs.length ys.length c1 c2 al xs ys w6 hSs hSt rfl rfl s1 s2
          have hk : Kept fp w w6 := (Kept.of_below hb5).trans hk6
          have hn6' : ∀ b, fp6 b → fp b ∨ w.heap.size ≤ b := fun b hb => (hn6 b hb).imp_right (fun h => Nat.le_trans hb5.size h)
          clear hb5 hI5 hB5 hS5 ko hk6 hn6 n5 c5
          go_upto_region 11 with (go_at_call 119; refine kr.mono ?_; rintro e w7 ⟨a3, c3, a4, c4, rfl, r1, r2, p1, p2, q1, q2, hb7⟩; have hS7 := hS6.later hb7; obtain ⟨t0, t1, t2, t3, t4, t5⟩ := hS7.cells6'; have f0 := hS7.frozen 0; have f1' := hS7.frozen 1; have f2' := hS7.frozen 2; have f3 := hS7.frozen 3; have f4 := hS7.frozen 4; have f5 := hS7.frozen 5)
          have hI7 := hI6.later hb7
          have hB7 := hB6.later hb7
          have hk7 : Kept fp w w7 := hk.trans (.of_below hb7)
          have z7 := hb7.size
          have b7 := (((((hS7.set 0 (.string s)).set 1 (.int .i64 cpu)).set 2 (.int .i64 mem)).set 3 (.slice a3 xs.length c3)).set 4 (.slice a4 ys.length c4)).set 5 (.bool al)
          simp only [List.setIfInBounds_toArray, List.set_cons_succ, List.set_cons_zero] at b7
          have k6 := six_kept w7 S s cpu mem (.slice a3 xs.length c3) (.slice a4 ys.length c4) al
          have z8 := six_size w7 S s cpu mem (.slice a3 xs.length c3) (.slice a4 ys.length c4) al
          have o8 := six_rest w7 S s cpu mem (.slice a3 xs.length c3) (.slice a4 ys.length c4) al
          generalize ((((((w7.setCell ⟨S, 0, none⟩ (.string s)).setCell ⟨S, 1, none⟩ (.int .i64 cpu)).setCell ⟨S, 2, none⟩ (.int .i64 mem)).setCell ⟨S, 3, none⟩ (.slice a3 xs.length c3)).setCell ⟨S, 4, none⟩ (.slice a4 ys.length c4)).setCell ⟨S, 5, none⟩ (.bool al)) = W8 at b7 k6 z8 o8 ⊢
          have hI8 : IsL W8 L fp6 (some b6) q6 E G := hI7.frame (fun b hb => k6 b (fun e => nS6 (e ▸ hb))) (Nat.le_of_eq z8.symm)
          have hB8 : W8.cell? ⟨w.heap.size, 0, none⟩ = some (.string s) := (World.cell?_of_block (k6 _ (by simp; omega))).trans (hB7.cell rfl)
          have hk8 : Kept fp w W8 := ⟨o8.1.trans hk7.os, o8.2.1.trans hk7.tape, o8.2.2.trans hk7.output, by rw [z8]; exact hk7.size, fun b hb hn => (k6 b (fun e => by omega)).trans (hk7.block b hb hn)⟩
          have r1' : Strs W8 a3 xs := r1.frame fun x hx _ => k6 _ (by have := q1 x hx; omega)
          have r2' : Strs W8 a4 ys := r2.frame fun x hx _ => k6 _ (by have := q2 x hx; omega)
          obtain ⟨b', hb', hN8⟩ := hI8.nodes.resolve_left (by simp)
          cases hb'
          obtain ⟨w9, hrun, hown, hgrow⟩ := World.ownsMap.update (show NOwn W8.drew b6 E from hN8) kS Tryz.underlying149 hlen (keyS hs) (val := Rec.val ⟨s, cpu, mem, a3, c3, xs, a4, c4, ys, al, u, m, k⟩) (d := .held (Rec.val ⟨s, cpu, mem, a3, c3, xs, a4, c4, ys, al, u, m, k⟩)) (ps := []) rfl
          have hown := NOwn.put hown
          have hgrow : W8.grownBy w9 (some b6) := grown_trans (below_grown (Below.drew (Below.refl _ _)) _) hgrow
          simp only [Rec.val] at hrun
          have c8 : W8.cell? ⟨L, 0, none⟩ = some (.map (some b6)) := hI8.box.cell rfl
          obtain ⟨y0, y1, y2, y3, y4, y5, y6, y7, y8⟩ := b7.cells9
          clear hI7 hB7 hI6 hB6 hS6 hS7 t0 t1 t2 t3 t4 t5 f0 f1' f2' f3 f4 f5 hSs hSt
          go_region_with (fail)
          all_goals
            go_wp2
            go_ret
            refine ⟨by rw [e5.out]; rfl, fun b => fp6 b ∨ (w6.heap.size ≤ b ∧ b < w7.heap.size), some b6, q6, a3, c3, a4, c4, ?_, fun b hb => .inl (hm6 b hb), ?_, hk8.trans' (.of_grown hgrow (hI8.fp1 b6 rfl)) hn6', fun hne => absurd e5.out hne⟩
            · rw [if_pos e5.out]
              exact (hI8.wide (fun b hb => .inl hb) (by rintro b (hb | hb); exact hI8.lt b hb; omega)).putN hown hgrow ⟨r1', r2', fun x hx _ => .inr (q1 x hx), fun x hx _ => .inr (q2 x hx), p1, p2⟩
            · rintro b (hb | hb)
              · exact hn6' b hb
              · exact .inr (by have := hk.size; omega)

end Go.Proofs.YthneemgpifbehaaGreatDoor
