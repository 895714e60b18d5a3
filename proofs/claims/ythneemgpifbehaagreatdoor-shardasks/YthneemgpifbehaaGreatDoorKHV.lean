/- A shard: whom a gang that is prepared asks. -/
import Derived.Test.YthneemgpifbehaaGreatDoorMg38
import Derived.Test.YthneemgpifbehaaGreatDoorMg13
namespace Go.Proofs.YthneemgpifbehaaGreatDoor
open Go.RowKit Go.Maps
set_option linter.unusedSimpArgs false
set_option linter.unusedVariables false

theorem infoMsg : (Tryz.prog.info? 40).map (fun i => (i.zero, i.size, i.bytes)) = some (some (.agg #[.int .i64 0, .int .i64 0, .int .i64 0, .int .i64 0, .slice none 0 0, .slice none 0 0, .bool false]), 7, 88) := by kernel_rfl
/-- One message that asks. -/
def askC (me g : Int) (tt : Int) : List Value := [.int .i64 7, .int .i64 me, .int .i64 tt, .int .i64 g, .slice none 0 0, .slice none 0 0, .bool false]
/-- Whom it asks behind the coordinator. -/
def askTo (me : Int) (ps : List Nat) : List Nat := ps.filter fun p => !decide ((p : Int) = me)
def asksC (me g : Int) (ps : List Nat) : List Value := askC me g 0 ++ (askTo me ps).flatMap fun (p : Nat) => askC me g p
theorem ask_len (me g tt : Int) : (askC me g tt).length = 7 := rfl
theorem asks_len (me g : Int) (ps : List Nat) : (asksC me g ps).length = ((askTo me ps).length + 1) * 7 := by
  unfold asksC
  generalize askTo me ps = l
  rw [List.length_append, ask_len]
  have : (l.flatMap fun (p : Nat) => askC me g p).length = l.length * 7 := by
    induction l with
    | nil => rfl
    | cons x t ih => rw [List.flatMap_cons, List.length_append, ih, ask_len]; simp; omega
  omega
theorem askTo_take (me : Int) (ps : List Nat) (k : Nat) (h : k < ps.length) : askTo me (ps.take (k + 1)) = askTo me (ps.take k) ++ if (ps.getD k 0 : Int) = me then [] else [ps.getD k 0] := by
  have e : ps.take (k + 1) = ps.take k ++ [ps.getD k 0] := by
    rw [List.take_succ_eq_append_getElem h]
    simp [List.getD, List.getElem?_eq_getElem h]
  rw [e]
  unfold askTo
  rw [List.filter_append]
  congr 1
  generalize ps.getD k 0 = q
  by_cases hm : (q : Int) = me <;> simp [hm]
theorem ask_one (me g tt : Int) : ∀ u ∈ askC me g tt, u.oneCell' = true := by
  intro u hu
  simp only [askC, List.mem_cons, List.not_mem_nil, or_false] at hu
  rcases hu with rfl | rfl | rfl | rfl | rfl | rfl | rfl <;> rfl

section
variable {w : World} {S T : Nat} {fp : Nat → Prop} {x : ShS}

set_option maxRecDepth 100000 in
set_option maxHeartbeats 2000000 in
/-- Nothing at first. -/
theorem qasks_few (g age : Int) (ea : Option Addr) (en ec : Nat) (hage : age < 4) :
    Calls Tryz.prog 66 #[.pointer (some ⟨S, 0, none⟩), .int .i64 g, .agg #[.int .i64 age, .slice ea en ec]] w fun e w' => e = .returned (.slice none 0 0) ∧ Below w.heap.size w w' := by
  go_enter Tryz.func66, Tryz.ntmps66
  go_wp2
  go_ret
  exact ⟨rfl, up (Below.refl _ _) _⟩

set_option maxRecDepth 100000 in
set_option maxHeartbeats 8000000 in
/-- The coordinator, then its peers but itself. -/
theorem qasks_any (h : IsS w S T fp x) (me : Int) (hme : x.me = me) (g age : Int) (ea : Option Addr) (en ec : Nat) (ps : List Nat) (hN : Nats w ea ps) (hen : ps.length = en) (hn4 : en ≤ 4) (hage : 4 ≤ age) :
    Calls Tryz.prog 66 #[.pointer (some ⟨S, 0, none⟩), .int .i64 g, .agg #[.int .i64 age, .slice ea en ec]] w fun e w' => ∃ v, e = .returned v ∧ w'.ownsRow (w.heap.size + 1) 40 7 v ((askTo me ps).length + 1) (asksC me g ps) ∧ Below w.heap.size w w' := by
  obtain ⟨i0, hi, hz0, hz1, hz2⟩ := info_parts infoMsg
  have c0 : w.cell? ⟨S, 0, none⟩ = some (.int .i64 me) := by
    obtain ⟨Lg, u, d, v, col, e, h⟩ := h
    rw [← hme]; exact h.c0
  have hSl := block_lt c0
  have hb0 := up (Below.refl w.heap.size w) (.cells #[.int .i64 age, .slice ea en ec] 115)
  have bP := Box.new w #[.int .i64 age, .slice ea en ec] 115 rfl
  obtain ⟨p0, p1⟩ := bP.cells2
  have c0a := cell_alloc c0 (.cells #[.int .i64 age, .slice ea en ec] 115)
  have hage' : ¬ age < 4 := by omega
  clear h
  go_enter Tryz.func66, Tryz.ntmps66
  go_upto_region 4 with fail
  have hb1 := up hb0 (.cells #[.int .i64 7, .int .i64 me, .int .i64 0, .int .i64 g, .slice none 0 0, .slice none 0 0, .bool false] 40)
  have p1' := cell_alloc p1 (.cells #[.int .i64 7, .int .i64 me, .int .i64 0, .int .i64 g, .slice none 0 0, .slice none 0 0, .bool false] 40)
  have hown0 : ((w.alloc (.cells #[.int .i64 age, .slice ea en ec] 115)).alloc (.cells #[.int .i64 7, .int .i64 me, .int .i64 0, .int .i64 g, .slice none 0 0, .slice none 0 0, .bool false] 40)).ownsRow (w.heap.size + 1) 40 7 (.slice (some ⟨w.heap.size + 1, 0, none⟩) 1 1) 1 (askC me g 0) :=
    ⟨rfl, .inr ⟨w.heap.size + 1, 1, #[.int .i64 7, .int .i64 me, .int .i64 0, .int .i64 g, .slice none 0 0, .slice none 0 0, .bool false], rfl, Nat.le_refl _, Box.new _ _ _ (by simp), Nat.le_refl _, (by unfold maxLen; omega), rfl, rfl⟩⟩
  generalize (w.alloc (.cells #[.int .i64 age, .slice ea en ec] 115)).alloc (.cells #[.int .i64 7, .int .i64 me, .int .i64 0, .int .i64 g, .slice none 0 0, .slice none 0 0, .bool false] 40) = W at *
  have hz1' : w.heap.size + 1 ≤ W.heap.size := by
    rcases hown0.2 with ⟨e, _⟩ | ⟨g', cap, cur, e, _, hgg, _⟩
    · cases e
    · have e1 : g' = w.heap.size + 1 := by injection e with e1; injection e1 with e1; injection e1 with e1; exact e1.symm
      subst e1
      have := (Array.getElem?_eq_some_iff.1 hgg).1
      omega
  clear p0 p1 c0a bP hb0
  go_wp2
  go_loopw [7, 9, 23] (fun l _ i wr => ∃ (k : Nat) (v : Value), v = l ∧ k ≤ en ∧ i = .int .i64 k ∧ wr.ownsRow (w.heap.size + 1) 40 7 v ((askTo me (ps.take k)).length + 1) (asksC me g (ps.take k)) ∧ Below w.heap.size w wr ∧ w.heap.size + 1 ≤ wr.heap.size) (fun _ _ i _ => en - (intOf i).toNat)
  case atStart => exact ⟨0, _, rfl, Nat.zero_le _, rfl, by simpa [askTo, asksC] using hown0, hb1, hz1'⟩
  case round =>
    obtain ⟨k, v, rfl, hk, rfl, hown, hbw, hzr⟩ := hrel
    clear hown0 hb1 p1' hz1'
    have c0r := cell_below hbw c0 hSl
    by_cases hlt : k < en
    · obtain ⟨y, rfl, hc⟩ := hN k (by omega)
      have hcr := cell_below hbw hc (block_lt hc)
      obtain ⟨p, hp⟩ : ∃ p, ps.getD k 0 = p := ⟨_, rfl⟩
      have ht := askTo_take me ps k (by omega)
      rw [hp] at hcr ht
      have hle : (askTo me (ps.take k)).length ≤ 4 := by
        have h1 : (askTo me (ps.take k)).length ≤ (ps.take k).length := List.length_filter_le _ _
        rw [List.length_take] at h1
        omega
      obtain ⟨n, hn⟩ : ∃ n, (askTo me (ps.take k)).length + 1 = n := ⟨_, rfl⟩
      have hT : Hid (askTo me (ps.take (k + 1)) = askTo me (ps.take k) ++ if (p : Int) = me then [] else [p]) := ht
      obtain ⟨xs, hxs⟩ : ∃ xs, asksC me g (ps.take k) = xs := ⟨_, rfl⟩
      have hX : Hid (asksC me g (ps.take k) = xs ∧ (askTo me (ps.take k)).length + 1 = n) := ⟨hxs, hn⟩
      rw [hn, hxs] at hown
      have hn5 : n ≤ 5 := by omega
      clear hc ht hn hxs hle hp
      by_cases hpm : (p : Int) = me
      · have hT2 : Hid (askTo me (ps.take (k + 1)) = askTo me (ps.take k)) := by
          show _ = _
          rw [hT.out, if_pos hpm, List.append_nil]
        clear hT
        go_wp2
        go_roundw
        case rel => exact ⟨k + 1, v, rfl, hlt, by go_num, by unfold asksC; rw [hT2.out]; have := hX.out; rw [this.2]; show wr.ownsRow _ _ _ _ _ (asksC me g (ps.take k)); rw [this.1]; exact hown, hbw, hzr⟩
        case measure => simp [intOf]; omega
      · have hT2 : Hid (askTo me (ps.take (k + 1)) = askTo me (ps.take k) ++ [p]) := by
          show _ = _
          rw [hT.out, if_neg hpm]
        clear hT
        have hupA := up (Below.refl wr.heap.size wr) (.cells #[.int .i64 7, .int .i64 me, .int .i64 p, .int .i64 g, .slice none 0 0, .slice none 0 0, .bool false] 40)
        go_wp2_with (first
          | (at_builtin; refine wpList_append_own _ rfl _ _ 36 rfl (w.heap.size + 1) 40 i0 _ 7 88 Tryz.underlying36 hi hz0 hz1 hz2 rfl (by decide) v n xs rfl (own_later hown hupA) ⟨_, 0, none⟩ 1 1 (askC me g p) rfl rfl (cells_new _ _ _ _ rfl) (ask_one me g p) (by unfold maxLen; omega) (by omega) (by simp; omega) ?_; intro v' w' hown' hgrow' _)
          | go_in)
        go_roundw
        case rel =>
          refine ⟨k + 1, v', rfl, hlt, by go_num, ?_, ?_, ?_⟩
          · have hX2 := hX.out
            unfold asksC at hX2 ⊢
            rw [hT2.out, List.length_append, List.flatMap_append, ← List.append_assoc, hX2.1]
            have : (askTo me (ps.take k)).length + [p].length + 1 = n + 1 := by simp; omega
            rw [this]
            simpa using hown'
          · exact (up hbw _).grown hgrow' (up hbw _).size (fun j hj => by
              rcases hown.2 with ⟨e, _⟩ | ⟨g', cap, cur, e, hb', _⟩
              · rw [e] at hj; cases hj
              · rw [e] at hj
                have : g' = j := by simpa [Value.ownBlock] using hj
                omega)
          · exact Nat.le_trans hzr (Nat.le_trans hupA.size hgrow'.size)
        case measure => simp [intOf]; omega
    · have hke : k = en := by omega
      subst hke
      rw [← hen, List.take_length] at hown
      go_wp2
      go_ret
      exact ⟨_, rfl, hown, hbw⟩
end

end Go.Proofs.YthneemgpifbehaaGreatDoor
