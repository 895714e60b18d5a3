/- The contract of check of package ledger. -/
import Derived.Test.YtpgchnppinbpkaaDoorLB
import Derived.Test.YtpgchnppinbpkaaDoorVE
namespace Go.Proofs.YtpgchnppinbpkaaDoor
open Go.RowKit Go.Maps

/-- What is wrong with the first place that is. -/
def checkF (E : List (ByteArray × Rec)) : List Pl → Int
  | [] => 0
  | q :: t => if look E q.node = none then 5 else if ¬ (0 ≤ q.cpu ∧ 0 ≤ q.mem) then 2 else checkF E t

theorem pls_drop (l : List Pl) (k : Nat) (h : k < l.length) : l.drop k = l[k] :: l.drop (k + 1) := List.drop_eq_getElem_cons h

set_option maxRecDepth 100000 in
set_option maxHeartbeats 4000000 in
theorem check_any (w : World) (L : Nat) (fp : Nat → Prop) (p q : Option Nat) (E : List (ByteArray × Rec)) (G : List (Int × Grp)) (h : IsL w L fp p q E G) (a : Option Addr) (n c : Nat) (ps : List Pl) (hP : Pls w a ps) (hl : ps.length = n) (hz : ∀ p ∈ ps, p.node.size ≤ maxLen) :
    Calls Tryd.prog 44 #[.pointer (some ⟨L, 0, none⟩), .slice a n c] w fun e w' => e = .returned (.int .i64 (checkF E ps)) ∧ Below w.heap.size w w' := by
  have hn := hP.1
  rw [hl] at hn
  obtain ⟨A, hA⟩ : ∃ A, checkF E ps = A := ⟨_, rfl⟩
  have HA : Hid (checkF E (ps.drop 0) = A) := by show _ = _; simpa using hA
  rw [hA]
  clear hA
  go_enter Tryd.func44, Tryd.ntmps44
  go_wp2
  go_loopw [11] (fun i wr => ∃ k : Nat, k ≤ n ∧ i = .int .i64 k ∧ Hid (checkF E (ps.drop k) = A) ∧ Below w.heap.size w wr) (fun i _ => n - (intOf i).toNat)
  case atStart => exact ⟨0, Nat.zero_le _, rfl, HA, Below.refl _ _⟩
  case round =>
    obtain ⟨k, hk, rfl, HS, hbw⟩ := hrel
    clear HA
    have hPr := hP.later hbw
    by_cases hlt : k < n
    · obtain ⟨B, o, rfl, hat⟩ := hPr.2 k _ (List.getElem?_eq_getElem (by omega))
      have hd := pls_drop ps k (by omega)
      have hzk := hz ps[k] (List.getElem_mem _)
      obtain ⟨p', hp⟩ : ∃ p, ps[k] = p := ⟨_, rfl⟩
      rw [hp] at hat hd hzk
      obtain ⟨pod, node, cpu, mem, al⟩ := p'
      obtain ⟨d0, d1, d2, d3, d4⟩ := hat
      simp only at d0 d1 d2 d3 d4 hzk
      have H2 : Hid (A = if look E node = none then 5 else if ¬ (0 ≤ cpu ∧ 0 ≤ mem) then 2 else checkF E (ps.drop (k + 1))) := by
        show _ = _
        rw [← HS.out, hd]; rfl
      clear HS hd hp
      go_wp2
      have hI1 : IsL (wr.alloc (.cells #[.string pod, .string node, .int .i64 cpu, .int .i64 mem, .bool al] 45)) L fp p q E G := (h.later hbw).later (up (Below.refl _ _) _)
      have hB1 : Box (wr.alloc (.cells #[.string pod, .string node, .int .i64 cpu, .int .i64 mem, .bool al] 45)) wr.heap.size #[.string pod, .string node, .int .i64 cpu, .int .i64 mem, .bool al] 45 := Box.new wr _ _ rfl
      have hb1 : Below w.heap.size w (wr.alloc (.cells #[.string pod, .string node, .int .i64 cpu, .int .i64 mem, .bool al] 45)) := up hbw _
      generalize (wr.alloc (.cells #[.string pod, .string node, .int .i64 cpu, .int .i64 mem, .bool al] 45)) = w3 at hI1 hB1 hb1 ⊢
      generalize wr.heap.size = S at hB1 ⊢
      clear d0 d1 d2 d3 d4 hPr hbw
      obtain ⟨r, hr⟩ : ∃ r, (look E node).getD zrec = r := ⟨_, rfl⟩
      obtain ⟨t, ht⟩ : ∃ t, (look E node).isSome = t := ⟨_, rfl⟩
      have l1 : w3.cell? ⟨L, 0, none⟩ = some (.map p) := hI1.box.cell rfl
      have l2 : w3.cell? ⟨S, 1, none⟩ = some (.string node) := hB1.cell rfl
      have l3' : (Instr.lookup 70 (.map p) (.string node) true).run Tryd.prog w3.drew = _ := (show NMap w3.drew p E from hI1.nodes).look2 node hzk
      have l3a : ∀ o, (Instr.lookup 70 (.map p) (.string node) true).run Tryd.prog (w3.alloc o).drew = _ := fun o => (show NMap (w3.alloc o).drew p E from (hI1.later (up (Below.refl _ _) o)).nodes).look2 node hzk
      rw [hr, ht] at l3'
      simp only [hr, ht] at l3a
      obtain ⟨nm', cpu', mem', a1', c1', xs', a2', c2', ys', cl', u, m, k'⟩ := r
      simp only [Rec.val] at l3' l3a
      have l1a := fun o => cell_alloc l1 o
      have l2a := fun o => cell_alloc l2 o
      go_cut [7, 8] (fun v6 v7 wx => v6 = .pointer (some ⟨w3.heap.size, 0, none⟩) ∧ v7 = .bool t ∧ wx = (w3.alloc (.cells #[.string nm', .int .i64 cpu', .int .i64 mem', .slice a1' xs'.length c1', .slice a2' ys'.length c2', .bool cl', .int .i64 u, .int .i64 m, .int .i64 k'] 79)).drew)
      case first =>
        go_region_with (fail)
        all_goals
          go_wp2
          go_meet
          case rel => exact ⟨rfl, rfl, rfl⟩
      case rest =>
        obtain ⟨rfl, rfl, rfl⟩ := hcut
        have hB4 : Box (w3.alloc (.cells #[.string nm', .int .i64 cpu', .int .i64 mem', .slice a1' xs'.length c1', .slice a2' ys'.length c2', .bool cl', .int .i64 u, .int .i64 m, .int .i64 k'] 79)).drew S #[.string pod, .string node, .int .i64 cpu, .int .i64 mem, .bool al] 45 := hB1.up _
        have hb4 : Below w.heap.size w (w3.alloc (.cells #[.string nm', .int .i64 cpu', .int .i64 mem', .slice a1' xs'.length c1', .slice a2' ys'.length c2', .bool cl', .int .i64 u, .int .i64 m, .int .i64 k'] 79)).drew := Below.drew (up hb1 _)
        generalize (w3.alloc (.cells #[.string nm', .int .i64 cpu', .int .i64 mem', .slice a1' xs'.length c1', .slice a2' ys'.length c2', .bool cl', .int .i64 u, .int .i64 m, .int .i64 k'] 79)).drew = W4 at hB4 hb4 ⊢
        clear l1 l2 l3' l3a l1a l2a hI1 hB1 hb1
        have y2 := hB4.cell (i := 2) rfl
        have y3 := hB4.cell (i := 3) rfl
        obtain ⟨f, hf⟩ : ∃ f, decide (0 ≤ cpu ∧ 0 ≤ mem) = f := ⟨_, rfl⟩
        have kf := right_any f cpu mem hf W4
        cases t with
        | false =>
          have e5 : Hid (A = 5) := by
            show _ = _
            have : look E node = none := by simpa using ht
            rw [H2.out, if_pos this]
          go_wp2
          go_ret
          exact ⟨by rw [e5.out]; rfl, hb4⟩
        | true =>
          have e4 : ¬ look E node = none := by intro e; rw [e] at ht; cases ht
          cases f with
          | false =>
            have e5 : Hid (A = 2) := by
              show _ = _
              simp only [decide_eq_false_iff_not] at hf
              rw [H2.out, if_neg e4, if_pos hf]
            clear hr ht e4 hf
            go_wp2_with (go_at_call 57; refine kf.mono ?_; rintro e w5 ⟨rfl, h5⟩)
            go_ret
            exact ⟨by rw [e5.out]; rfl, hb4.trans (h5.mono hb4.size)⟩
          | true =>
            have e5 : Hid (checkF E (ps.drop (k + 1)) = A) := by
              show _ = _
              have hf : 0 ≤ cpu ∧ 0 ≤ mem := by simpa using hf
              rw [H2.out, if_neg e4, if_neg (by simp [hf])]
            clear H2 hr ht e4 hf
            go_wp2_with (go_at_call 57; refine kf.mono ?_; rintro e w5 ⟨rfl, h5⟩)
            go_roundw
            case rel => exact ⟨k + 1, hlt, by go_num, e5, hb4.trans (h5.mono hb4.size)⟩
            case measure => simp [intOf]; omega
    · have e1 : k = n := by omega
      have e2 : Hid (A = 0) := by show _ = _; rw [← HS.out, e1, List.drop_of_length_le (by omega)]; rfl
      clear hP hPr HS
      go_wp2
      go_ret
      exact ⟨by rw [e2.out]; rfl, hbw⟩

end Go.Proofs.YtpgchnppinbpkaaDoor
