/- The contract of with of package ledger. -/
import Derived.Test.YtpgchnppinbpkaaDoorWJ
namespace Go.Proofs.YtpgchnppinbpkaaDoor
open Go.RowKit Go.Maps

set_option maxRecDepth 100000 in
set_option maxHeartbeats 8000000 in
theorem with_any (w : World) (L : Nat) (fp : Nat → Prop) (p q : Option Nat) (E : List (ByteArray × Rec)) (G : List (Int × Grp)) (h : IsL w L fp p q E G) (hF : ∀ e ∈ E, e.2.Fair) (a : Option Addr) (n c : Nat) (ps : List Pl) (hP : Pls w a ps) (hl : ps.length = n) (hz : ∀ p ∈ ps, p.node.size ≤ maxLen) (hq : ∀ p ∈ ps, 0 ≤ p.cpu ∧ 0 ≤ p.mem) :
    Calls Tryd.prog 45 #[.pointer (some ⟨L, 0, none⟩), .slice a n c] w fun e w' => WithPost w fp (withF E [] ps) e w' ∧ Below w.heap.size w w' := by
  have hn := hP.1
  rw [hl] at hn
  have hmm := @run_makeMap Tryd.prog
  obtain ⟨R, hR⟩ : ∃ R, withF E [] ps = R := ⟨_, rfl⟩
  have HR : Hid (withF E [] (ps.drop 0) = R) := by show _ = _; simpa using hR
  rw [hR]
  clear hR
  go_enter Tryd.func45, Tryd.ntmps45
  go_wp2
  go_loopw [16] (fun i wr => ∃ (k : Nat) (A : List (ByteArray × Rec)), k ≤ n ∧ A.length ≤ k ∧ i = .int .i64 k ∧ Hid (withF E A (ps.drop k) = R) ∧ NOwn wr w.heap.size A ∧ (∀ e ∈ A, e.2.Ok w fp ∧ e.2.Fair) ∧ Below w.heap.size w wr) (fun i _ => n - (intOf i).toNat)
  case atStart => exact ⟨0, [], Nat.zero_le _, Nat.le_refl _, rfl, HR, NOwn.made w, (fun e he => by cases he), up (Below.refl _ _) _⟩
  case round =>
    obtain ⟨k, A, hk, hAk, rfl, HS, hN, hAo, hbw⟩ := hrel
    clear HR
    have hPr := hP.later hbw
    by_cases hlt : k < n
    · obtain ⟨B, o, rfl, hat⟩ := hPr.2 k _ (List.getElem?_eq_getElem (by omega))
      have hd := pls_drop ps k (by omega)
      have hzk := hz ps[k] (List.getElem_mem _)
      have hqk := hq ps[k] (List.getElem_mem _)
      obtain ⟨p', hp⟩ : ∃ p, ps[k] = p := ⟨_, rfl⟩
      rw [hp] at hat hd hzk hqk
      obtain ⟨pod, node, cpu, mem, al⟩ := p'
      obtain ⟨d0, d1, d2, d3, d4⟩ := hat
      simp only at d0 d1 d2 d3 d4 hzk hqk
      obtain ⟨r, hr⟩ : ∃ r, nowR E A node = r := ⟨_, rfl⟩
      have H2 : Hid (R = if r.u + cpu ≤ r.cpu ∧ r.m + mem ≤ r.mem then withF E (put sK A node (r.plus ⟨pod, node, cpu, mem, al⟩)) (ps.drop (k + 1)) else none) := by
        show _ = _
        rw [← HS.out, hd, ← hr]; rfl
      have hrO : r.Ok w fp ∧ r.Fair := by
        rw [← hr]
        unfold nowR
        cases h1 : look A node with
        | some x => exact hAo _ (mem_of_look h1)
        | none =>
          cases h2 : look E node with
          | some x => exact ⟨h.okE _ (mem_of_look h2), hF _ (mem_of_look h2)⟩
          | none => exact ⟨zrec_ok _ _, zrec_fair⟩
      have hI1 : IsL (wr.alloc (.cells #[.string pod, .string node, .int .i64 cpu, .int .i64 mem, .bool al] 45)) L fp p q E G := (h.later hbw).later (up (Below.refl _ _) _)
      have hN1 : NOwn (wr.alloc (.cells #[.string pod, .string node, .int .i64 cpu, .int .i64 mem, .bool al] 45)) w.heap.size A := hN.kept (Below.heap_alloc _ _ _ hN.lt)
      have hB1 : Box (wr.alloc (.cells #[.string pod, .string node, .int .i64 cpu, .int .i64 mem, .bool al] 45)) wr.heap.size #[.string pod, .string node, .int .i64 cpu, .int .i64 mem, .bool al] 45 := Box.new wr _ _ rfl
      have hb1 : Below w.heap.size w (wr.alloc (.cells #[.string pod, .string node, .int .i64 cpu, .int .i64 mem, .bool al] 45)) := up hbw _
      go_upto_region 5 with fail
      generalize (wr.alloc (.cells #[.string pod, .string node, .int .i64 cpu, .int .i64 mem, .bool al] 45)) = w3 at hI1 hN1 hB1 hb1 ⊢
      generalize wr.heap.size = S at hB1 ⊢
      clear d0 d1 d2 d3 d4 hPr HS hd hp hN hbw
      have l2 : w3.cell? ⟨S, 1, none⟩ = some (.string node) := hB1.cell rfl
      have hlk : (Instr.lookup 70 (.map (some w.heap.size)) (.string node) true).run Tryd.prog w3 = _ := (show NMap w3 (some w.heap.size) A from .inr ⟨_, rfl, hN1⟩).look2 node hzk
      cases hla : look A node with
      | some r0 =>
        rw [hla] at hlk
        obtain rfl : r0 = r := by rw [← hr]; unfold nowR; rw [hla]; rfl
        obtain ⟨nm', cpu', mem', a1', c1', xs', a2', c2', ys', cl', u, m, k'⟩ := r0
        simp only [Rec.val, Option.getD_some, Option.isSome_some] at hlk
        have hI5 := hI1.later (up (Below.refl _ _) (.cells #[.string nm', .int .i64 cpu', .int .i64 mem', .slice a1' xs'.length c1', .slice a2' ys'.length c2', .bool cl', .int .i64 u, .int .i64 m, .int .i64 k'] 79))
        have hN5 : NOwn (w3.alloc (.cells #[.string nm', .int .i64 cpu', .int .i64 mem', .slice a1' xs'.length c1', .slice a2' ys'.length c2', .bool cl', .int .i64 u, .int .i64 m, .int .i64 k'] 79)) w.heap.size A := hN1.kept (Below.heap_alloc _ _ _ hN1.lt)
        have hB5 := hB1.up (.cells #[.string nm', .int .i64 cpu', .int .i64 mem', .slice a1' xs'.length c1', .slice a2' ys'.length c2', .bool cl', .int .i64 u, .int .i64 m, .int .i64 k'] 79)
        have hS5 : Box (w3.alloc (.cells #[.string nm', .int .i64 cpu', .int .i64 mem', .slice a1' xs'.length c1', .slice a2' ys'.length c2', .bool cl', .int .i64 u, .int .i64 m, .int .i64 k'] 79)) w3.heap.size _ _ := Box.new w3 #[.string nm', .int .i64 cpu', .int .i64 mem', .slice a1' xs'.length c1', .slice a2' ys'.length c2', .bool cl', .int .i64 u, .int .i64 m, .int .i64 k'] 79 rfl
        have hb5 := up hb1 (.cells #[.string nm', .int .i64 cpu', .int .i64 mem', .slice a1' xs'.length c1', .slice a2' ys'.length c2', .bool cl', .int .i64 u, .int .i64 m, .int .i64 k'] 79)
        have hST : S ≠ w3.heap.size := Nat.ne_of_lt hB1.lt
        have hbW : w.heap.size < w3.heap.size := hN1.lt
        go_upto_region 8 with fail
        generalize w3.alloc (.cells #[.string nm', .int .i64 cpu', .int .i64 mem', .slice a1' xs'.length c1', .slice a2' ys'.length c2', .bool cl', .int .i64 u, .int .i64 m, .int .i64 k'] 79) = W5 at hI5 hN5 hB5 hS5 hb5 ⊢
        generalize w3.heap.size = T at hS5 hST hbW ⊢
        clear hlk l2 hI1 hN1 hB1 hb1
        clear hr hla
        have kA := add_any u m cpu mem ⟨hrO.2.u, hrO.2.m⟩ hqk ⟨hrO.2.cu, hrO.2.cm⟩ W5
        have y2 := hB5.cell (i := 2) rfl
        have y3 := hB5.cell (i := 3) rfl
        have t6 := hS5.cell (i := 6) rfl
        have t7 := hS5.cell (i := 7) rfl
        have hcap := hrO.2.cpu
        have hcap2 := hrO.2.mem
        simp only at hcap hcap2
        have hS0 : T ≠ w.heap.size := fun e => by
          obtain ⟨es, cc, hm⟩ := own_map hN5
          have := hS5
          unfold Box at this
          rw [e, hm] at this
          cases this
        have zT : w.heap.size ≤ T := by omega
        by_cases hfit : u + cpu ≤ cpu' ∧ m + mem ≤ mem'
        · have e5 : Hid (withF E (put sK A node (Rec.plus ⟨nm', cpu', mem', a1', c1', xs', a2', c2', ys', cl', u, m, k'⟩ ⟨pod, node, cpu, mem, al⟩)) (ps.drop (k + 1)) = R) := by
            show _ = _
            rw [H2.out, if_pos hfit]
          have hpO := hrO.1.plus ⟨pod, node, cpu, mem, al⟩
          have hpF := hrO.2.plus (q := ⟨pod, node, cpu, mem, al⟩) hqk hfit
          have hadd : addV u m cpu mem = .tuple #[.agg #[.int .i64 (u + cpu), .int .i64 (m + mem)], .int .i64 0] := by unfold addV; rw [if_pos (by omega)]
          rw [hadd] at kA
          have kf := fun W => fits_any true (u + cpu) (m + mem) cpu' mem' (by simpa using hfit) W
          have hnl : A.length < maxLen := by unfold maxLen; omega
          clear hadd H2
          go_upto_region 11 with (first
            | (go_at_call 65; refine kA.mono ?_; rintro e w6 ⟨rfl, h6⟩; have hS6 := hS5.later h6; have v1 := (hS6.up (V (u + cpu) (m + mem))).cell (i := 1) rfl; have v2 := (hS6.up (V (u + cpu) (m + mem))).cell (i := 2) rfl)
            | (go_at_call 35; refine (kf _).mono ?_; rintro e w7 ⟨rfl, h7⟩))
          have hS7 := (hS6.up (V (u + cpu) (m + mem))).later h7
          have hB7 := ((hB5.later h6).up (V (u + cpu) (m + mem))).later h7
          have hQ7 := (Box.new w6 #[.int .i64 (u + cpu), .int .i64 (m + mem)] 40 rfl).later h7
          have h67 : Below w6.heap.size w6 w7 := (up (Below.refl _ _) _).trans (h7.mono (by simp))
          have hN7 : NOwn w7 w.heap.size A := (hN5.kept (h6.block _ hN5.lt)).kept (h67.block _ (Nat.lt_of_lt_of_le hN5.lt h6.size))
          have hb7 : Below w.heap.size w w7 := hb5.trans ((h6.trans (h67.mono h6.size)).mono hb5.size)
          have zQ : T < w6.heap.size := hS6.lt
          generalize w6.heap.size = Q at hQ7 zQ ⊢
          have z1 : T ≠ Q := by omega
          have z2 : Q ≠ T := by omega
          have zS : S ≠ T := hST
          have zS' : T ≠ S := fun e => hST e.symm
          clear hS6 h6 h7 h67 kA kf y2 y3 t6 t7 v1 v2 hI5 hB5 hN5 hb5 hS5 hcap hcap2 hqk hrO zQ
          obtain ⟨q0, q1⟩ := hQ7.cells2
          have g8 := hS7.cell (i := 8) rfl
          have g6 := hS7.cell (i := 6) rfl
          have g7 := hS7.cell (i := 7) rfl
          have f6 := hS7.frozen 6
          have f7 := hS7.frozen 7
          have f8 := hS7.frozen 8
          go_upto_region 13 with fail
          have hg8 : w7.grownBy (((w7.setCell ⟨T, 6, none⟩ (.int .i64 (u + cpu))).setCell ⟨T, 7, none⟩ (.int .i64 (m + mem))).setCell ⟨T, 8, none⟩ (.int .i64 (wrap64 (k' + 1)))) (some T) := grown_trans (grown_trans (grown_set _ T 6 _) (grown_set _ T 7 _)) (grown_set _ T 8 _)
          have b8 := ((hS7.set 6 (.int .i64 (u + cpu))).set 7 (.int .i64 (m + mem))).set 8 (.int .i64 (wrap64 (k' + 1)))
          simp only [List.setIfInBounds_toArray, List.set_cons_succ, List.set_cons_zero] at b8
          generalize (((w7.setCell ⟨T, 6, none⟩ (.int .i64 (u + cpu))).setCell ⟨T, 7, none⟩ (.int .i64 (m + mem))).setCell ⟨T, 8, none⟩ (.int .i64 (wrap64 (k' + 1)))) = W8 at hg8 b8 ⊢
          have hN8 := hN7.grownO hg8 (fun e => hS0 e.symm)
          have hb8 := hb7.grown hg8 hb7.size (fun j hj => by cases hj; exact zT)
          have hB8 := hB7.grown hg8 (by simpa using zS)
          have e8 := hB8.cell (i := 1) rfl
          obtain ⟨x0, x1, x2, x3, x4, x5, x6, x7, x8⟩ := b8.cells9
          obtain ⟨w9, hrun, hown, hgrow⟩ := World.ownsMap.update (show NOwn W8 w.heap.size A from hN8) kS Tryd.underlying70 hnl (keyS hzk) (val := Rec.val (Rec.plus ⟨nm', cpu', mem', a1', c1', xs', a2', c2', ys', cl', u, m, k'⟩ ⟨pod, node, cpu, mem, al⟩)) (d := .held (Rec.val (Rec.plus ⟨nm', cpu', mem', a1', c1', xs', a2', c2', ys', cl', u, m, k'⟩ ⟨pod, node, cpu, mem, al⟩))) (ps := []) rfl
          have hown := NOwn.put hown
          simp only [Rec.val, Rec.plus] at hrun
          clear hg8 b8 q0 q1 g6 g7 g8 f6 f7 f8 hS7 hB7 hQ7 hB8 hb7
          go_wp2
          go_roundw
          case rel =>
            refine ⟨k + 1, _, hlt, ?_, by go_num, e5, hown, ?_, hb8.grown hgrow hb8.size (fun j hj => by cases hj; exact Nat.le_refl _)⟩
            · rw [length_put sK hN7.apart]; split <;> omega
            · intro e he
              rcases (mem_put sK).1 he with rfl | ⟨he, _⟩
              · exact ⟨hpO, hpF⟩
              · exact hAo e he
          case measure => simp [intOf]; omega
        · have e5 : Hid (R = none) := by show _ = _; rw [H2.out, if_neg hfit]
          clear H2
          by_cases hov : u + cpu ≤ 9223372036854775807 ∧ m + mem ≤ 9223372036854775807
          · have hadd : addV u m cpu mem = .tuple #[.agg #[.int .i64 (u + cpu), .int .i64 (m + mem)], .int .i64 0] := by unfold addV; rw [if_pos hov]
            rw [hadd] at kA
            have kf := fun W => fits_any false (u + cpu) (m + mem) cpu' mem' (by simpa using hfit) W
            clear hadd hfit hov hcap hcap2
            go_wp2_with (first
              | (go_at_call 65; refine kA.mono ?_; rintro e w6 ⟨rfl, h6⟩; have hS6 := hS5.later h6; have v1 := (hS6.up (V (u + cpu) (m + mem))).cell (i := 1) rfl; have v2 := (hS6.up (V (u + cpu) (m + mem))).cell (i := 2) rfl)
              | (go_at_call 35; refine (kf _).mono ?_; rintro e w7 ⟨rfl, h7⟩))
            refine bodyPost_ret (by simp [results, Tryd.results45, go_sem]) rfl ⟨.inl ⟨e5.out, rfl⟩, ?_⟩
            have h67 : Below w6.heap.size w6 w7 := (up (Below.refl _ _) _).trans (h7.mono (by simp))
            exact hb5.trans ((h6.trans (h67.mono h6.size)).mono hb5.size)
          · have hadd : addV u m cpu mem = .tuple #[.agg #[.int .i64 0, .int .i64 0], .int .i64 6] := by unfold addV; rw [if_neg hov]
            rw [hadd] at kA
            clear hadd hfit hov hcap hcap2
            go_wp2_with (go_at_call 65; refine kA.mono ?_; rintro e w6 ⟨rfl, h6⟩)
            refine bodyPost_ret (by simp [results, Tryd.results45, go_sem]) rfl ⟨.inl ⟨e5.out, rfl⟩, ?_⟩
            exact up (hb5.trans (h6.mono hb5.size)) _
      | none =>
        rw [hla] at hlk
        have hle : (look E node).getD zrec = r := by rw [← hr]; unfold nowR; rw [hla]; rfl
        simp only [Option.getD_none, Option.isSome_none, zrec, Rec.val] at hlk
        have hI4 := hI1.later (up (Below.refl _ _) (.cells #[.string ByteArray.empty, .int .i64 0, .int .i64 0, .slice none 0 0, .slice none 0 0, .bool false, .int .i64 0, .int .i64 0, .int .i64 0] 79))
        have hN4 : NOwn (w3.alloc (.cells #[.string ByteArray.empty, .int .i64 0, .int .i64 0, .slice none 0 0, .slice none 0 0, .bool false, .int .i64 0, .int .i64 0, .int .i64 0] 79)) w.heap.size A := hN1.kept (Below.heap_alloc _ _ _ hN1.lt)
        have hB4 := hB1.up (.cells #[.string ByteArray.empty, .int .i64 0, .int .i64 0, .slice none 0 0, .slice none 0 0, .bool false, .int .i64 0, .int .i64 0, .int .i64 0] 79)
        have hS4 : Box (w3.alloc (.cells #[.string ByteArray.empty, .int .i64 0, .int .i64 0, .slice none 0 0, .slice none 0 0, .bool false, .int .i64 0, .int .i64 0, .int .i64 0] 79)) w3.heap.size #[.string ByteArray.empty, .int .i64 0, .int .i64 0, .slice none 0 0, .slice none 0 0, .bool false, .int .i64 0, .int .i64 0, .int .i64 0] 79 := Box.new w3 _ _ rfl
        have hb4 := up hb1 (.cells #[.string ByteArray.empty, .int .i64 0, .int .i64 0, .slice none 0 0, .slice none 0 0, .bool false, .int .i64 0, .int .i64 0, .int .i64 0] 79)
        go_upto_region 7 with fail
        have hBS : S < w3.heap.size := hB1.lt
        have hbL : L < w3.heap.size := hI1.box.lt
        have hbW : w.heap.size < w3.heap.size := hN1.lt
        have nS : ¬ fp w3.heap.size := hI1.outs
        generalize w3.alloc (.cells #[.string ByteArray.empty, .int .i64 0, .int .i64 0, .slice none 0 0, .slice none 0 0, .bool false, .int .i64 0, .int .i64 0, .int .i64 0] 79) = W4 at hI4 hN4 hB4 hS4 hb4 ⊢
        generalize w3.heap.size = T at hS4 hBS hbL hbW nS ⊢
        have l3 : (Instr.lookup 70 (.map p) (.string node) false).run Tryd.prog W4.drew = _ := (show NMap W4.drew p E from hI4.nodes).look1 node hzk
        rw [hle] at l3
        obtain ⟨nm', cpu', mem', a1', c1', xs', a2', c2', ys', cl', u, m, k'⟩ := r
        simp only [Rec.val] at l3
        have l1 : W4.cell? ⟨L, 0, none⟩ = some (.map p) := hI4.box.cell rfl
        have l2' : W4.cell? ⟨S, 1, none⟩ = some (.string node) := hB4.cell rfl
        obtain ⟨t0, t1, t2, t3, t4, t5, t6, t7, t8⟩ := hS4.cells9
        have f0 := hS4.frozen 0
        have f1 := hS4.frozen 1
        have f2 := hS4.frozen 2
        have f3 := hS4.frozen 3
        have f4 := hS4.frozen 4
        have f5 := hS4.frozen 5
        have f6 := hS4.frozen 6
        have f7 := hS4.frozen 7
        have f8 := hS4.frozen 8
        go_cut [] (fun wx => Box wx T #[.string nm', .int .i64 cpu', .int .i64 mem', .slice a1' xs'.length c1', .slice a2' ys'.length c2', .bool cl', .int .i64 u, .int .i64 m, .int .i64 k'] 79 ∧ Box wx S #[.string pod, .string node, .int .i64 cpu, .int .i64 mem, .bool al] 45 ∧ NOwn wx w.heap.size A ∧ IsL wx L fp p q E G ∧ Below w.heap.size w wx)
        case first =>
          go_region_with (fail)
          all_goals
            go_wp2
            go_meet
            case rel =>
              have hg := nine_grown W4 T (.string nm') (.int .i64 cpu') (.int .i64 mem') (.slice a1' xs'.length c1') (.slice a2' ys'.length c2') (.bool cl') (.int .i64 u) (.int .i64 m) (.int .i64 k')
              have hx := nine_box hS4 (.string nm') (.int .i64 cpu') (.int .i64 mem') (.slice a1' xs'.length c1') (.slice a2' ys'.length c2') (.bool cl') (.int .i64 u) (.int .i64 m) (.int .i64 k')
              unfold nine at hg hx
              generalize (((((((((W4.setCell ⟨T, 0, none⟩ (.string nm')).setCell ⟨T, 1, none⟩ (.int .i64 cpu')).setCell ⟨T, 2, none⟩ (.int .i64 mem')).setCell ⟨T, 3, none⟩ (.slice a1' xs'.length c1')).setCell ⟨T, 4, none⟩ (.slice a2' ys'.length c2')).setCell ⟨T, 5, none⟩ (.bool cl')).setCell ⟨T, 6, none⟩ (.int .i64 u)).setCell ⟨T, 7, none⟩ (.int .i64 m)).setCell ⟨T, 8, none⟩ (.int .i64 k')) = W9 at hg hx ⊢
              have hg : W4.grownBy W9.drew (some T) := grown_trans hg (below_grown (Below.drew (Below.refl _ _)) _)
              exact ⟨hx, hB4.grown hg (by simp; omega), hN4.grownO hg (by omega), hI4.grownO hg nS, hb4.grown hg hb4.size (fun j hj => by cases hj; omega)⟩
        case rest =>
          obtain ⟨hS5, hB5, hN5, hI5, hb5⟩ := hcut
          have hST : S ≠ T := Nat.ne_of_lt hBS
          clear hlk l2 hI1 hN1 hB1 hb1 hI4 hN4 hB4 hS4 hb4 l3 l1 l2' t0 t1 t2 t3 t4 t5 t6 t7 t8 f0 f1 f2 f3 f4 f5 f6 f7 f8 hle
          generalize wc = W5 at *
          clear hla
          have kA := add_any u m cpu mem ⟨hrO.2.u, hrO.2.m⟩ hqk ⟨hrO.2.cu, hrO.2.cm⟩ W5
          have y2 := hB5.cell (i := 2) rfl
          have y3 := hB5.cell (i := 3) rfl
          have t6 := hS5.cell (i := 6) rfl
          have t7 := hS5.cell (i := 7) rfl
          have hcap := hrO.2.cpu
          have hcap2 := hrO.2.mem
          simp only at hcap hcap2
          have hS0 : T ≠ w.heap.size := fun e => by
            obtain ⟨es, cc, hm⟩ := own_map hN5
            have := hS5
            unfold Box at this
            rw [e, hm] at this
            cases this
          have zT : w.heap.size ≤ T := by omega
          by_cases hfit : u + cpu ≤ cpu' ∧ m + mem ≤ mem'
          · have e5 : Hid (withF E (put sK A node (Rec.plus ⟨nm', cpu', mem', a1', c1', xs', a2', c2', ys', cl', u, m, k'⟩ ⟨pod, node, cpu, mem, al⟩)) (ps.drop (k + 1)) = R) := by
              show _ = _
              rw [H2.out, if_pos hfit]
            have hpO := hrO.1.plus ⟨pod, node, cpu, mem, al⟩
            have hpF := hrO.2.plus (q := ⟨pod, node, cpu, mem, al⟩) hqk hfit
            have hadd : addV u m cpu mem = .tuple #[.agg #[.int .i64 (u + cpu), .int .i64 (m + mem)], .int .i64 0] := by unfold addV; rw [if_pos (by omega)]
            rw [hadd] at kA
            have kf := fun W => fits_any true (u + cpu) (m + mem) cpu' mem' (by simpa using hfit) W
            have hnl : A.length < maxLen := by unfold maxLen; omega
            clear hadd H2
            go_upto_region 11 with (first
              | (go_at_call 65; refine kA.mono ?_; rintro e w6 ⟨rfl, h6⟩; have hS6 := hS5.later h6; have v1 := (hS6.up (V (u + cpu) (m + mem))).cell (i := 1) rfl; have v2 := (hS6.up (V (u + cpu) (m + mem))).cell (i := 2) rfl)
              | (go_at_call 35; refine (kf _).mono ?_; rintro e w7 ⟨rfl, h7⟩))
            have hS7 := (hS6.up (V (u + cpu) (m + mem))).later h7
            have hB7 := ((hB5.later h6).up (V (u + cpu) (m + mem))).later h7
            have hQ7 := (Box.new w6 #[.int .i64 (u + cpu), .int .i64 (m + mem)] 40 rfl).later h7
            have h67 : Below w6.heap.size w6 w7 := (up (Below.refl _ _) _).trans (h7.mono (by simp))
            have hN7 : NOwn w7 w.heap.size A := (hN5.kept (h6.block _ hN5.lt)).kept (h67.block _ (Nat.lt_of_lt_of_le hN5.lt h6.size))
            have hb7 : Below w.heap.size w w7 := hb5.trans ((h6.trans (h67.mono h6.size)).mono hb5.size)
            have zQ : T < w6.heap.size := hS6.lt
            generalize w6.heap.size = Q at hQ7 zQ ⊢
            have z1 : T ≠ Q := by omega
            have z2 : Q ≠ T := by omega
            have zS : S ≠ T := hST
            have zS' : T ≠ S := fun e => hST e.symm
            clear hS6 h6 h7 h67 kA kf y2 y3 t6 t7 v1 v2 hI5 hB5 hN5 hb5 hS5 hcap hcap2 hqk hrO zQ
            obtain ⟨q0, q1⟩ := hQ7.cells2
            have g8 := hS7.cell (i := 8) rfl
            have g6 := hS7.cell (i := 6) rfl
            have g7 := hS7.cell (i := 7) rfl
            have f6 := hS7.frozen 6
            have f7 := hS7.frozen 7
            have f8 := hS7.frozen 8
            go_upto_region 13 with fail
            have hg8 : w7.grownBy (((w7.setCell ⟨T, 6, none⟩ (.int .i64 (u + cpu))).setCell ⟨T, 7, none⟩ (.int .i64 (m + mem))).setCell ⟨T, 8, none⟩ (.int .i64 (wrap64 (k' + 1)))) (some T) := grown_trans (grown_trans (grown_set _ T 6 _) (grown_set _ T 7 _)) (grown_set _ T 8 _)
            have b8 := ((hS7.set 6 (.int .i64 (u + cpu))).set 7 (.int .i64 (m + mem))).set 8 (.int .i64 (wrap64 (k' + 1)))
            simp only [List.setIfInBounds_toArray, List.set_cons_succ, List.set_cons_zero] at b8
            generalize (((w7.setCell ⟨T, 6, none⟩ (.int .i64 (u + cpu))).setCell ⟨T, 7, none⟩ (.int .i64 (m + mem))).setCell ⟨T, 8, none⟩ (.int .i64 (wrap64 (k' + 1)))) = W8 at hg8 b8 ⊢
            have hN8 := hN7.grownO hg8 (fun e => hS0 e.symm)
            have hb8 := hb7.grown hg8 hb7.size (fun j hj => by cases hj; exact zT)
            have hB8 := hB7.grown hg8 (by simpa using zS)
            have e8 := hB8.cell (i := 1) rfl
            obtain ⟨x0, x1, x2, x3, x4, x5, x6, x7, x8⟩ := b8.cells9
            obtain ⟨w9, hrun, hown, hgrow⟩ := World.ownsMap.update (show NOwn W8 w.heap.size A from hN8) kS Tryd.underlying70 hnl (keyS hzk) (val := Rec.val (Rec.plus ⟨nm', cpu', mem', a1', c1', xs', a2', c2', ys', cl', u, m, k'⟩ ⟨pod, node, cpu, mem, al⟩)) (d := .held (Rec.val (Rec.plus ⟨nm', cpu', mem', a1', c1', xs', a2', c2', ys', cl', u, m, k'⟩ ⟨pod, node, cpu, mem, al⟩))) (ps := []) rfl
            have hown := NOwn.put hown
            simp only [Rec.val, Rec.plus] at hrun
            clear hg8 b8 q0 q1 g6 g7 g8 f6 f7 f8 hS7 hB7 hQ7 hB8 hb7
            go_wp2
            go_roundw
            case rel =>
              refine ⟨k + 1, _, hlt, ?_, by go_num, e5, hown, ?_, hb8.grown hgrow hb8.size (fun j hj => by cases hj; exact Nat.le_refl _)⟩
              · rw [length_put sK hN7.apart]; split <;> omega
              · intro e he
                rcases (mem_put sK).1 he with rfl | ⟨he, _⟩
                · exact ⟨hpO, hpF⟩
                · exact hAo e he
            case measure => simp [intOf]; omega
          · have e5 : Hid (R = none) := by show _ = _; rw [H2.out, if_neg hfit]
            clear H2
            by_cases hov : u + cpu ≤ 9223372036854775807 ∧ m + mem ≤ 9223372036854775807
            · have hadd : addV u m cpu mem = .tuple #[.agg #[.int .i64 (u + cpu), .int .i64 (m + mem)], .int .i64 0] := by unfold addV; rw [if_pos hov]
              rw [hadd] at kA
              have kf := fun W => fits_any false (u + cpu) (m + mem) cpu' mem' (by simpa using hfit) W
              clear hadd hfit hov hcap hcap2
              go_wp2_with (first
                | (go_at_call 65; refine kA.mono ?_; rintro e w6 ⟨rfl, h6⟩; have hS6 := hS5.later h6; have v1 := (hS6.up (V (u + cpu) (m + mem))).cell (i := 1) rfl; have v2 := (hS6.up (V (u + cpu) (m + mem))).cell (i := 2) rfl)
                | (go_at_call 35; refine (kf _).mono ?_; rintro e w7 ⟨rfl, h7⟩))
              refine bodyPost_ret (by simp [results, Tryd.results45, go_sem]) rfl ⟨.inl ⟨e5.out, rfl⟩, ?_⟩
              have h67 : Below w6.heap.size w6 w7 := (up (Below.refl _ _) _).trans (h7.mono (by simp))
              exact hb5.trans ((h6.trans (h67.mono h6.size)).mono hb5.size)
            · have hadd : addV u m cpu mem = .tuple #[.agg #[.int .i64 0, .int .i64 0], .int .i64 6] := by unfold addV; rw [if_neg hov]
              rw [hadd] at kA
              clear hadd hfit hov hcap hcap2
              go_wp2_with (go_at_call 65; refine kA.mono ?_; rintro e w6 ⟨rfl, h6⟩)
              refine bodyPost_ret (by simp [results, Tryd.results45, go_sem]) rfl ⟨.inl ⟨e5.out, rfl⟩, ?_⟩
              exact up (hb5.trans (h6.mono hb5.size)) _
    · have e1 : k = n := by omega
      have e2 : Hid (R = some A) := by show _ = _; rw [← HS.out, e1, List.drop_of_length_le (by omega)]; rfl
      clear hP hPr HS
      go_wp2
      refine bodyPost_ret (by simp [results, Tryd.results45, go_sem]) rfl ⟨.inr ⟨A, e2.out, rfl, hN, hAo⟩, hbw⟩

end Go.Proofs.YtpgchnppinbpkaaDoor
