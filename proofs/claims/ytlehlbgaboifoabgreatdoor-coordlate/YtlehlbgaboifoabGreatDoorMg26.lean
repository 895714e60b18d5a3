/- What is said to shards, one behind the other: say. -/
import Derived.Test.YtlehlbgaboifoabGreatDoorMg25
import Derived.Test.YtlehlbgaboifoabGreatDoorMg20
import Derived.Deep.DeepCutAuto
namespace Go.Proofs.YtlehlbgaboifoabGreatDoor
open Go.RowKit Go.Maps Go.Shelf
set_option linter.unusedSimpArgs false
set_option linter.unusedVariables false

theorem infoMsg : (Tryz.prog.info? 46).map (fun i => (i.zero, i.size, i.bytes)) = some (some (.agg #[.int .i64 0, .int .i64 0, .int .i64 0, .int .i64 0, .slice none 0 0, .slice none 0 0, .bool false]), 7, 88) := by kernel_rfl

theorem set3 {w : World} {R : Nat} {c0 c1 c2 c3 c4 c5 c6 : Value} {t : TypeId} (h : Box w R #[c0, c1, c2, c3, c4, c5, c6] t) (x1 x2 x3 : Value) :
    ∃ W, W = (((w.setCell ⟨R, 1, none⟩ x1).setCell ⟨R, 2, none⟩ x2).setCell ⟨R, 3, none⟩ x3).drew ∧ Box W R #[c0, x1, x2, x3, c4, c5, c6] t ∧ (∀ k, k ≠ R → W.heap[k]? = w.heap[k]?) ∧
      (∀ (B : Nat) (w0 : World), Below B w0 w → B ≤ R → Below B w0 W) ∧ W.heap.size = w.heap.size := by
  have h1 : Box (w.setCell ⟨R, 1, none⟩ x1) R #[c0, x1, c2, c3, c4, c5, c6] t := h.set 1 x1
  have h2 : Box ((w.setCell ⟨R, 1, none⟩ x1).setCell ⟨R, 2, none⟩ x2) R #[c0, x1, x2, c3, c4, c5, c6] t := h1.set 2 x2
  have h3 : Box (((w.setCell ⟨R, 1, none⟩ x1).setCell ⟨R, 2, none⟩ x2).setCell ⟨R, 3, none⟩ x3) R #[c0, x1, x2, x3, c4, c5, c6] t := h2.set 3 x3
  exact ⟨_, rfl, h3.drew, fun k hk => (setCell_other _ _ _ _ _ hk).trans ((setCell_other _ _ _ _ _ hk).trans (setCell_other _ _ _ _ _ hk)),
    fun B w0 hb hR => (((hb.setCell (p := ⟨R, 1, none⟩) hR x1).setCell (p := ⟨R, 2, none⟩) hR x2).setCell (p := ⟨R, 3, none⟩) hR x3).drew, by simp [World.setCell, World.drew]⟩

theorem MsgsN.nil (w w' : World) : MsgsN w w' (.slice none 0 0) [] := ⟨[], fun _ => False, World.ownsRow_nil _ _ _ _, rfl, fun m hm => by (cases hm), fun k hk => hk.elim⟩
/-- One message more. -/
theorem MsgsN.snoc {w wr wc wA w9 : World} {v v2 : Value} {l : List MG} {Q : Nat → Prop} {L M s id : Nat} {xs : List Value} {ds : List MD} {d : MD} {m : MG}
    (hown : wr.ownsRow w.heap.size 46 7 v L xs) (hL : l.length = L) (hxs : l.flatMap MG.cells = xs) (hdl : l.map MG.data = ds) (hoks : ∀ m ∈ l, m.Ok wr Q) (hQ : ∀ k, Q k → New w wr k ∧ v.ownBlock ≠ some k) (hbw : Below w.heap.size w wr)
    (hd : m.data = d) (h1 : d.tg = s) (h2 : d.id = id) (hokX : m.Ok wc fun k => wr.heap.size ≤ k ∧ k < M) (hXA : Below wc.heap.size wc wA) (hbX : Below wr.heap.size wr wc) (hM : M < wc.heap.size)
    (ho9 : w9.ownsRow w.heap.size 46 7 v2 (L + 1) (xs ++ [.int .i64 m.k, .int .i64 0, .int .i64 s, .int .i64 id, .slice m.pa m.pods.length m.pc, .slice m.ra m.rs.length m.rc, .bool m.yes])) (hg9 : wA.grownBy w9 v.ownBlock) (hn9 : NewOr wA v v2) (hds : ds = ds) :
    MsgsN w w9 v2 (ds ++ [d]) := by
  subst hL hxs hdl hd
  subst h1 h2
  have hvl : ∀ k, v.ownBlock = some k → k < wr.heap.size := fun k hk => (own_low hown k hk).2
  have hz1 := hbX.size
  have hz2 := hXA.size
  have hz9 := hg9.size
  have hw := hbw.size
  have hA : Below wr.heap.size wr wA := fin hXA hbX
  refine ⟨l ++ [m], fun k => Q k ∨ (wr.heap.size ≤ k ∧ k < M), ?_, by simp, fun m' hm' => ?_, fun k hk => ?_⟩
  · rw [List.flatMap_append, List.length_append]
    simpa [MG.cells, MG.data] using ho9
  · rcases List.mem_append.1 hm' with h | h
    · have h3 := (hoks m' h).frame (w' := w9) fun k hk => by
        obtain ⟨⟨_, h5⟩, h6⟩ := hQ k hk
        rw [hg9.block k (by omega) (fun e => h6 e.symm), hA.block k h5]
      exact h3.wide fun k hk => .inl hk
    · obtain rfl := List.mem_singleton.1 h
      have h3 := hokX.frame (w' := w9) fun k hk => by
        rw [hg9.block k (by omega) (fun e => by have := hvl k e.symm; omega), hXA.block k (by omega)]
      exact h3.wide fun k hk => .inr hk
  · rcases hk with hk | hk
    · obtain ⟨⟨h4, h5⟩, h6⟩ := hQ k hk
      refine ⟨⟨h4, by omega⟩, fun e => ?_⟩
      rcases hn9 k e with h7 | h7
      · exact h6 h7
      · omega
    · refine ⟨⟨by omega, by omega⟩, fun e => ?_⟩
      rcases hn9 k e with h7 | h7
      · have := hvl k h7; omega
      · omega

set_option maxRecDepth 100000 in
set_option maxHeartbeats 8000000 in
theorem say_p (b : Nat) (id : Nat) (f : Nat → MD) (hf : ∀ s, (f s).tg = s ∧ (f s).id = id) (P : Nat) (sa : Option Addr) (n sc : Nat) (ss : List Nat) (w : World) (c0 : w.cell? ⟨b, 0, none⟩ = some (.int .i64 id)) (c3 : w.cell? ⟨b, 3, none⟩ = some (.iface 92 (ptr P)))
    (kw : ∀ W, Below w.heap.size w W → ∀ s, s ∈ ss → Calls Tryz.prog 260 #[ptr P, .int .i64 s] W (WordP W (f s)))
    (hs : Nats w sa ss) (hn : ss.length = n) (hn1 : n ≤ 1000) :
    Calls Tryz.prog 86 #[ptr b, .slice sa n sc] w fun e w' => ∃ v, e = .returned v ∧ MsgsN w w' v (ss.map f) ∧ Below w.heap.size w w' := by
  have hbl := block_lt c0
  have m1 := fun W => mth_p_word ⟨P, 0, none⟩ W
  have m2 := fun W => nil_p_word ⟨P, 0, none⟩ W
  obtain ⟨i0, hi, iz0, iz1, iz2⟩ := info_parts infoMsg
  go_enter Tryz.func86, Tryz.ntmps86
  go_wp2
  go_loopw [5, 11] (fun v5 v11 wr => ∃ k : Nat, k ≤ n ∧ v11 = .int .i64 k ∧ MsgsN w wr v5 ((ss.take k).map f) ∧ Below w.heap.size w wr) (fun _ v11 _ => n - (intOf v11).toNat)
  case atStart => exact ⟨0, Nat.zero_le _, rfl, MsgsN.nil w w, Below.refl _ _⟩
  case round =>
    obtain ⟨k, hk, rfl, hM, hbw⟩ := hrel
    by_cases hlt : k < n
    · obtain ⟨x, rfl, hx⟩ := hs k (by omega)
      have hxr := cell_below hbw hx (by rw [add_block]; have := block_lt hx; rwa [add_block] at this)
      have c0r := cell_below hbw c0 hbl
      have c3r := cell_below hbw c3 hbl
      obtain ⟨s, hss⟩ : ∃ s, ss.getD k 0 = s := ⟨_, rfl⟩
      have hmem : s ∈ ss := by rw [← hss, List.getD_eq_getElem?_getD, List.getElem?_eq_getElem (by omega)]; exact List.getElem_mem _
      have htk : (ss.take (k + 1)) = ss.take k ++ [s] := by rw [← hss]; exact take_snoc ss k _ (getD_some ss k 0 (by omega))
      rw [hss] at hxr
      have kk := kw wr hbw s hmem
      have hT : Hid ((ss.take (k + 1)).map f = (ss.take k).map f ++ [f s]) := by show _ = _; rw [htk]; simp
      have hF : Hid ((f s).tg = s ∧ (f s).id = id) := hf s
      clear htk hx hss hs hf kw
      have hblr : b < wr.heap.size := Nat.lt_of_lt_of_le hbl hbw.size
      go_upto_region 6 with (first
        | (go_at_call 260; refine kk.mono ?_; rintro e w2 ⟨m, rfl, hd, hok, hb2⟩; have c02 := cell_below hb2 c0r hblr)
        | fail)
      have bM := Box.new w2 #[.int .i64 m.k, .int .i64 0, .int .i64 0, .int .i64 0, .slice m.pa m.pods.length m.pc, .slice m.ra m.rs.length m.rc, .bool m.yes] 46 rfl
      have hbM := up (Below.refl w2.heap.size w2) (.cells #[.int .i64 m.k, .int .i64 0, .int .i64 0, .int .i64 0, .slice m.pa m.pods.length m.pc, .slice m.ra m.rs.length m.rc, .bool m.yes] 46)
      have hz2 := hb2.size
      have hne : b ≠ w2.heap.size := by omega
      have hne' : w2.heap.size ≠ b := fun e => hne e.symm
      have c03 := cell_below hbM c02 (block_lt c02)
      have hok3 : m.Ok (w2.alloc (.cells #[.int .i64 m.k, .int .i64 0, .int .i64 0, .int .i64 0, .slice m.pa m.pods.length m.pc, .slice m.ra m.rs.length m.rc, .bool m.yes] 46)) (New wr w2) := hok.frame fun k hk => hbM.block k hk.2
      have hz3 := hbM.size
      obtain ⟨M, hMM⟩ : ∃ M, w2.heap.size = M := ⟨_, rfl⟩
      have hNM : ∀ k, New wr w2 k → wr.heap.size ≤ k ∧ k < M := fun k hk => by rw [← hMM]; exact hk
      have hok4 := hok3.wide hNM
      have hb3 : Below wr.heap.size wr (w2.alloc (.cells #[.int .i64 m.k, .int .i64 0, .int .i64 0, .int .i64 0, .slice m.pa m.pods.length m.pc, .slice m.ra m.rs.length m.rc, .bool m.yes] 46)) := fin hbM hb2
      rw [hMM] at bM hne hne' hz3 hz2 ⊢
      clear hok hok3 hNM hb2 hbM c02 kk m1 m2 c3r hxr
      generalize (w2.alloc (.cells #[.int .i64 m.k, .int .i64 0, .int .i64 0, .int .i64 0, .slice m.pa m.pods.length m.pc, .slice m.ra m.rs.length m.rc, .bool m.yes] 46)) = w3 at *
      clear hMM
      obtain ⟨q0, q1, q2, q3, q4, q5, q6⟩ := bM.cells7
      have qf := bM.frozen
      have hl1 : k + 1 ≤ 1001 := by omega
      go_cut [] (fun wx => Box wx M #[.int .i64 m.k, .int .i64 0, .int .i64 s, .int .i64 id, .slice m.pa m.pods.length m.pc, .slice m.ra m.rs.length m.rc, .bool m.yes] 46 ∧ m.Ok wx (fun k => wr.heap.size ≤ k ∧ k < M) ∧ Below wr.heap.size wr wx ∧ M < wx.heap.size)
      case first =>
        go_region_with (fail)
        all_goals
          go_wp2
          go_meet
          case rel =>
            obtain ⟨W, hW, z1, z2, z3, z4⟩ := set3 bM (.int .i64 0) (.int .i64 s) (.int .i64 id)
            rw [← hW]
            exact ⟨z1, hok4.frame fun k hk => z2 k (by omega), z3 _ _ hb3 hz2, by rw [z4]; exact bM.lt⟩
      case rest =>
        obtain ⟨bX, hokX, hbX, hMX⟩ := hcut
        clear bM qf q0 q1 q2 q3 q4 q5 q6 hok4 hb3 c03
        obtain ⟨l, Q, hown, hdl, hoks, hQ⟩ := hM
        obtain ⟨L, hL⟩ : ∃ L, l.length = L := ⟨_, rfl⟩
        have hLk : L = k := by
          have h1 := congrArg List.length hdl
          simp at h1
          omega
        obtain ⟨xs, hxs⟩ : ∃ xs, l.flatMap MG.cells = xs := ⟨_, rfl⟩
        rw [hL, hxs] at hown
        obtain ⟨a5, c5, rfl⟩ := tslice_of_own hown
        have hownX := own_later hown hbX
        obtain ⟨r0, r1, r2, r3, r4, r5, r6⟩ := bX.cells7
        have hwX := fin hbX hbw
        have hXA := up (Below.refl wc.heap.size wc) (.cells #[.int .i64 m.k, .int .i64 0, .int .i64 s, .int .i64 id, .slice m.pa m.pods.length m.pc, .slice m.ra m.rs.length m.rc, .bool m.yes] 46)
        have hownA := own_later hownX hXA
        have hA2 := cells_new wc [.int .i64 m.k, .int .i64 0, .int .i64 s, .int .i64 id, .slice m.pa m.pods.length m.pc, .slice m.ra m.rs.length m.rc, .bool m.yes] 46 wc.heap.size rfl
        have hA3 : w.heap.size ≤ (wc.alloc (.cells #[.int .i64 m.k, .int .i64 0, .int .i64 s, .int .i64 id, .slice m.pa m.pods.length m.pc, .slice m.ra m.rs.length m.rc, .bool m.yes] 46)).heap.size := by have := hwX.size; simp; omega
        have hA4 : L + 1 ≤ maxLen := by unfold maxLen; omega
        have hA5 : (L + 1) * 88 ≤ 140737488355328 := by omega
        have hfix : Hid (l.length = L ∧ L = k ∧ l.flatMap MG.cells = xs) := ⟨hL, hLk, hxs⟩
        clear hL hLk hxs hl1
        go_wp2_with (at_builtin; refine wpList_append_new rfl _ _ 27 rfl w.heap.size 46 i0 _ 7 88 Tryz.underlying27 hi iz0 iz1 iz2 rfl (by decide) (.slice a5 L c5) L xs rfl hownA ⟨_, 0, none⟩ 1 1 [.int .i64 m.k, .int .i64 0, .int .i64 s, .int .i64 id, .slice m.pa m.pods.length m.pc, .slice m.ra m.rs.length m.rc, .bool m.yes] rfl rfl hA2 (fun u hu => by simp at hu; rcases hu with rfl | rfl | rfl | rfl | rfl | rfl | rfl <;> rfl) hA4 hA5 hA3 ?_; intro v2 w9 ho9 hg9 hn9)
        go_roundw
        case rel =>
          refine ⟨k + 1, hlt, by go_num, ?_, ((hwX.alloc hwX.size _).grown hg9 hA3 (fun j hj => (own_low hown j hj).1))⟩
          rw [hT.out]
          obtain ⟨e1, e2, e3⟩ := hfix.out
          exact MsgsN.snoc (m := m) hown e1 e3 hdl hoks hQ hbw hd hF.out.1 hF.out.2 hokX hXA hbX hMX ho9 hg9 hn9 rfl
        case measure => simp [intOf]; omega
    · have : k = n := by omega
      subst this
      have e : ss.take k = ss := List.take_of_length_le (by omega)
      rw [e] at hM
      go_wp2
      go_ret
      exact ⟨_, rfl, hM, hbw⟩

set_option maxRecDepth 100000 in
set_option maxHeartbeats 8000000 in
theorem say_v (b : Nat) (id : Nat) (f : Nat → MD) (hf : ∀ s, (f s).tg = s ∧ (f s).id = id) (v : Nat) (sa : Option Addr) (n sc : Nat) (ss : List Nat) (w : World) (c0 : w.cell? ⟨b, 0, none⟩ = some (.int .i64 id)) (c3 : w.cell? ⟨b, 3, none⟩ = some (.iface 140 (.int .i64 v)))
    (kw : ∀ W, Below w.heap.size w W → ∀ s, s ∈ ss → Calls Tryz.prog 263 #[.int .i64 v, .int .i64 s] W (WordP W (f s)))
    (hs : Nats w sa ss) (hn : ss.length = n) (hn1 : n ≤ 1000) :
    Calls Tryz.prog 86 #[ptr b, .slice sa n sc] w fun e w' => ∃ v, e = .returned v ∧ MsgsN w w' v (ss.map f) ∧ Below w.heap.size w w' := by
  have hbl := block_lt c0
  have m1 := fun W => mth_v_word (.int .i64 v) W
  have m2 := fun W => nil_v_word v W
  obtain ⟨i0, hi, iz0, iz1, iz2⟩ := info_parts infoMsg
  go_enter Tryz.func86, Tryz.ntmps86
  go_wp2
  go_loopw [5, 11] (fun v5 v11 wr => ∃ k : Nat, k ≤ n ∧ v11 = .int .i64 k ∧ MsgsN w wr v5 ((ss.take k).map f) ∧ Below w.heap.size w wr) (fun _ v11 _ => n - (intOf v11).toNat)
  case atStart => exact ⟨0, Nat.zero_le _, rfl, MsgsN.nil w w, Below.refl _ _⟩
  case round =>
    obtain ⟨k, hk, rfl, hM, hbw⟩ := hrel
    by_cases hlt : k < n
    · obtain ⟨x, rfl, hx⟩ := hs k (by omega)
      have hxr := cell_below hbw hx (by rw [add_block]; have := block_lt hx; rwa [add_block] at this)
      have c0r := cell_below hbw c0 hbl
      have c3r := cell_below hbw c3 hbl
      obtain ⟨s, hss⟩ : ∃ s, ss.getD k 0 = s := ⟨_, rfl⟩
      have hmem : s ∈ ss := by rw [← hss, List.getD_eq_getElem?_getD, List.getElem?_eq_getElem (by omega)]; exact List.getElem_mem _
      have htk : (ss.take (k + 1)) = ss.take k ++ [s] := by rw [← hss]; exact take_snoc ss k _ (getD_some ss k 0 (by omega))
      rw [hss] at hxr
      have kk := kw wr hbw s hmem
      have hT : Hid ((ss.take (k + 1)).map f = (ss.take k).map f ++ [f s]) := by show _ = _; rw [htk]; simp
      have hF : Hid ((f s).tg = s ∧ (f s).id = id) := hf s
      clear htk hx hss hs hf kw
      have hblr : b < wr.heap.size := Nat.lt_of_lt_of_le hbl hbw.size
      go_upto_region 6 with (first
        | (go_at_call 263; refine kk.mono ?_; rintro e w2 ⟨m, rfl, hd, hok, hb2⟩; have c02 := cell_below hb2 c0r hblr)
        | fail)
      have bM := Box.new w2 #[.int .i64 m.k, .int .i64 0, .int .i64 0, .int .i64 0, .slice m.pa m.pods.length m.pc, .slice m.ra m.rs.length m.rc, .bool m.yes] 46 rfl
      have hbM := up (Below.refl w2.heap.size w2) (.cells #[.int .i64 m.k, .int .i64 0, .int .i64 0, .int .i64 0, .slice m.pa m.pods.length m.pc, .slice m.ra m.rs.length m.rc, .bool m.yes] 46)
      have hz2 := hb2.size
      have hne : b ≠ w2.heap.size := by omega
      have hne' : w2.heap.size ≠ b := fun e => hne e.symm
      have c03 := cell_below hbM c02 (block_lt c02)
      have hok3 : m.Ok (w2.alloc (.cells #[.int .i64 m.k, .int .i64 0, .int .i64 0, .int .i64 0, .slice m.pa m.pods.length m.pc, .slice m.ra m.rs.length m.rc, .bool m.yes] 46)) (New wr w2) := hok.frame fun k hk => hbM.block k hk.2
      have hz3 := hbM.size
      obtain ⟨M, hMM⟩ : ∃ M, w2.heap.size = M := ⟨_, rfl⟩
      have hNM : ∀ k, New wr w2 k → wr.heap.size ≤ k ∧ k < M := fun k hk => by rw [← hMM]; exact hk
      have hok4 := hok3.wide hNM
      have hb3 : Below wr.heap.size wr (w2.alloc (.cells #[.int .i64 m.k, .int .i64 0, .int .i64 0, .int .i64 0, .slice m.pa m.pods.length m.pc, .slice m.ra m.rs.length m.rc, .bool m.yes] 46)) := fin hbM hb2
      rw [hMM] at bM hne hne' hz3 hz2 ⊢
      clear hok hok3 hNM hb2 hbM c02 kk m1 m2 c3r hxr
      generalize (w2.alloc (.cells #[.int .i64 m.k, .int .i64 0, .int .i64 0, .int .i64 0, .slice m.pa m.pods.length m.pc, .slice m.ra m.rs.length m.rc, .bool m.yes] 46)) = w3 at *
      clear hMM
      obtain ⟨q0, q1, q2, q3, q4, q5, q6⟩ := bM.cells7
      have qf := bM.frozen
      have hl1 : k + 1 ≤ 1001 := by omega
      go_cut [] (fun wx => Box wx M #[.int .i64 m.k, .int .i64 0, .int .i64 s, .int .i64 id, .slice m.pa m.pods.length m.pc, .slice m.ra m.rs.length m.rc, .bool m.yes] 46 ∧ m.Ok wx (fun k => wr.heap.size ≤ k ∧ k < M) ∧ Below wr.heap.size wr wx ∧ M < wx.heap.size)
      case first =>
        go_region_with (fail)
        all_goals
          go_wp2
          go_meet
          case rel =>
            obtain ⟨W, hW, z1, z2, z3, z4⟩ := set3 bM (.int .i64 0) (.int .i64 s) (.int .i64 id)
            rw [← hW]
            exact ⟨z1, hok4.frame fun k hk => z2 k (by omega), z3 _ _ hb3 hz2, by rw [z4]; exact bM.lt⟩
      case rest =>
        obtain ⟨bX, hokX, hbX, hMX⟩ := hcut
        clear bM qf q0 q1 q2 q3 q4 q5 q6 hok4 hb3 c03
        obtain ⟨l, Q, hown, hdl, hoks, hQ⟩ := hM
        obtain ⟨L, hL⟩ : ∃ L, l.length = L := ⟨_, rfl⟩
        have hLk : L = k := by
          have h1 := congrArg List.length hdl
          simp at h1
          omega
        obtain ⟨xs, hxs⟩ : ∃ xs, l.flatMap MG.cells = xs := ⟨_, rfl⟩
        rw [hL, hxs] at hown
        obtain ⟨a5, c5, rfl⟩ := tslice_of_own hown
        have hownX := own_later hown hbX
        obtain ⟨r0, r1, r2, r3, r4, r5, r6⟩ := bX.cells7
        have hwX := fin hbX hbw
        have hXA := up (Below.refl wc.heap.size wc) (.cells #[.int .i64 m.k, .int .i64 0, .int .i64 s, .int .i64 id, .slice m.pa m.pods.length m.pc, .slice m.ra m.rs.length m.rc, .bool m.yes] 46)
        have hownA := own_later hownX hXA
        have hA2 := cells_new wc [.int .i64 m.k, .int .i64 0, .int .i64 s, .int .i64 id, .slice m.pa m.pods.length m.pc, .slice m.ra m.rs.length m.rc, .bool m.yes] 46 wc.heap.size rfl
        have hA3 : w.heap.size ≤ (wc.alloc (.cells #[.int .i64 m.k, .int .i64 0, .int .i64 s, .int .i64 id, .slice m.pa m.pods.length m.pc, .slice m.ra m.rs.length m.rc, .bool m.yes] 46)).heap.size := by have := hwX.size; simp; omega
        have hA4 : L + 1 ≤ maxLen := by unfold maxLen; omega
        have hA5 : (L + 1) * 88 ≤ 140737488355328 := by omega
        have hfix : Hid (l.length = L ∧ L = k ∧ l.flatMap MG.cells = xs) := ⟨hL, hLk, hxs⟩
        clear hL hLk hxs hl1
        go_wp2_with (at_builtin; refine wpList_append_new rfl _ _ 27 rfl w.heap.size 46 i0 _ 7 88 Tryz.underlying27 hi iz0 iz1 iz2 rfl (by decide) (.slice a5 L c5) L xs rfl hownA ⟨_, 0, none⟩ 1 1 [.int .i64 m.k, .int .i64 0, .int .i64 s, .int .i64 id, .slice m.pa m.pods.length m.pc, .slice m.ra m.rs.length m.rc, .bool m.yes] rfl rfl hA2 (fun u hu => by simp at hu; rcases hu with rfl | rfl | rfl | rfl | rfl | rfl | rfl <;> rfl) hA4 hA5 hA3 ?_; intro v2 w9 ho9 hg9 hn9)
        go_roundw
        case rel =>
          refine ⟨k + 1, hlt, by go_num, ?_, ((hwX.alloc hwX.size _).grown hg9 hA3 (fun j hj => (own_low hown j hj).1))⟩
          rw [hT.out]
          obtain ⟨e1, e2, e3⟩ := hfix.out
          exact MsgsN.snoc (m := m) hown e1 e3 hdl hoks hQ hbw hd hF.out.1 hF.out.2 hokX hXA hbX hMX ho9 hg9 hn9 rfl
        case measure => simp [intOf]; omega
    · have : k = n := by omega
      subst this
      have e : ss.take k = ss := List.take_of_length_le (by omega)
      rw [e] at hM
      go_wp2
      go_ret
      exact ⟨_, rfl, hM, hbw⟩

end Go.Proofs.YtlehlbgaboifoabGreatDoor

/- A gang: say, enter, drop, tick. -/
namespace Go.Proofs.YtlehlbgaboifoabGreatDoor
open Go.RowKit Go.Maps Go.Shelf
set_option linter.unusedSimpArgs false
set_option linter.unusedVariables false

theorem Box.cells4 {w : World} {B : Nat} {t : TypeId} {x0 x1 x2 x3 : Value} (h : Box w B #[x0, x1, x2, x3] t) : w.cell? ⟨B, 0, none⟩ = some x0 ∧ w.cell? ⟨B, 1, none⟩ = some x1 ∧ w.cell? ⟨B, 2, none⟩ = some x2 ∧ w.cell? ⟨B, 3, none⟩ = some x3 := ⟨h.cell rfl, h.cell rfl, h.cell rfl, h.cell rfl⟩
theorem wordS_to (ps : List Nat) (id s : Nat) (ph : Ph) : (wordS ps id s ph).tg = s ∧ (wordS ps id s ph).id = id := by
  cases ph with
  | nul => exact ⟨rfl, rfl⟩
  | hold a p => exact ⟨rfl, rfl⟩
  | prep a => exact ⟨rfl, rfl⟩
  | dec n => by_cases h : n = 5 <;> simp [wordS, h]
theorem MsgsN.low {w0 w w' : World} {v : Value} {ds : List MD} (h : MsgsN w w' v ds) (hz : w0.heap.size ≤ w.heap.size) : MsgsN w0 w' v ds := by
  obtain ⟨l, Q, h1, h2, h3, h4⟩ := h
  exact ⟨l, Q, own_base h1 hz, h2, h3, fun k hk => ⟨⟨Nat.le_trans hz (h4 k hk).1.1, (h4 k hk).1.2⟩, (h4 k hk).2⟩⟩

section
variable {w w' w1 : World} {C : Nat} {Q R R' : Nat → Prop} {id : Nat} {g : GS} {pa : Option Addr} {pc : Nat} {wv v : Value}

theorem say_any (h : GA w C Q R id g pa pc wv v) (h0 : g.ph ≠ .nul) (sa : Option Addr) (n sc : Nat) (ss : List Nat) (hs : Nats w sa ss) (hn : ss.length = n) (hn1 : n ≤ 1000) :
    Calls Tryz.prog 86 #[ptr g.b, .slice sa n sc] w fun e w' => ∃ v, e = .returned v ∧ MsgsN w w' v (ss.map fun s => wordS g.ps id s g.ph) ∧ Below w.heap.size w w' := by
  have c0 : w.cell? ⟨g.b, 0, none⟩ = some (.int .i64 id) := h.box.cell rfl
  have c1 : w.cell? ⟨g.b, 1, none⟩ = some (.slice pa g.ps.length pc) := h.box.cell rfl
  have c3 : w.cell? ⟨g.b, 3, none⟩ = some v := h.box.cell rfl
  have hN := h.ps
  have hl := h.lp
  have hS := h.pS
  have hph := h.ph
  clear h
  obtain ⟨b, ps, ws, ph⟩ := g
  cases ph with
  | nul => exact absurd rfl h0
  | hold age pods =>
    obtain ⟨_, P, gb, xb, cb, pb, a, c, rfl, hh⟩ := hph
    exact say_p b id (fun s => wordS ps id s (.hold age pods)) (fun s => wordS_to _ _ _ _) P sa n sc ss w c0 c3 (fun W hW s _ => p_word_hold P gb s id ps a c pods W ((hh.bP.later hW).cell rfl) (hh.bg.later hW) (hh.hp.later hW) age) hs hn hn1
  | prep age =>
    obtain ⟨_, P, xb, cb, rfl, hh⟩ := hph
    exact say_p b id (fun s => wordS ps id s (.prep age)) (fun s => wordS_to _ _ _ _) P sa n sc ss w c0 c3 (fun W hW s _ => p_word_prep P xb b s id ps pa pc W ((hh.bP.later hW).cell rfl) ((hh.bx.later hW).cell rfl) (cell_below hW c1 (block_lt c1)) (hN.later hW) hl hS age) hs hn hn1
  | dec m =>
    obtain ⟨rfl, h3, h5⟩ := hph
    exact say_v b id (fun s => wordS ps id s (.dec m)) (fun s => wordS_to _ _ _ _) m sa n sc ss w c0 c3 (fun W hW s _ => word_dec m s ps id W h3 h5) hs hn hn1

theorem GA.entered (h : GA w C Q R id g pa pc wv v) (hb : Below w.heap.size w w1) {v' : Value} {ph' : Ph} (h' : PhAt w C Q R' id g.b v' ph') (hRR : ∀ k, R k → R' k) (hRQ : ∀ k, R' k → Q k) (hRb : ¬ R' g.b)
    {wv2 : Value} (hown : w1.ownsRow w.heap.size 3 1 wv2 g.ps.length (g.ps.map natV)) :
    ∃ Q', GA ((w1.setCell ⟨g.b, 3, none⟩ v').setCell ⟨g.b, 2, none⟩ wv2) C Q' R' id ⟨g.b, g.ps, g.ps, ph'⟩ pa pc wv2 v' ∧ Turn w ((w1.setCell ⟨g.b, 3, none⟩ v').setCell ⟨g.b, 2, none⟩ wv2) Q Q' := by
  have hz : ((w1.setCell ⟨g.b, 3, none⟩ v').setCell ⟨g.b, 2, none⟩ wv2).heap.size = w1.heap.size := by simp [World.setCell]
  have hgb := h.box.lt
  have hk1 : ∀ k, k ≠ g.b → ((w1.setCell ⟨g.b, 3, none⟩ v').setCell ⟨g.b, 2, none⟩ wv2).heap[k]? = w1.heap[k]? := fun k hk => (setCell_other _ _ _ _ _ hk).trans (setCell_other _ _ _ _ _ hk)
  have hk2 : ∀ k, k < w.heap.size → k ≠ g.b → ((w1.setCell ⟨g.b, 3, none⟩ v').setCell ⟨g.b, 2, none⟩ wv2).heap[k]? = w.heap[k]? := fun k hl hk => (hk1 k hk).trans (hb.block k hl)
  have hbW : Below g.b w ((w1.setCell ⟨g.b, 3, none⟩ v').setCell ⟨g.b, 2, none⟩ wv2) := ((hb.mono (Nat.le_of_lt hgb)).setCell (p := ⟨g.b, 3, none⟩) (Nat.le_refl _) v').setCell (p := ⟨g.b, 2, none⟩) (Nat.le_refl _) wv2
  have hnR : ∀ k, R' k → k < w.heap.size ∧ k ≠ g.b := fun k hk => ⟨h.lt k (hRQ k hk), fun e => hRb (by rw [← e]; exact hk)⟩
  refine ⟨fun k => Q k ∨ wv2.ownBlock = some k, ?_, ⟨fun k hk => .inl hk, fun k hk => ?_, ⟨hbW.os, hbW.tape, hbW.output, by rw [hz]; exact hb.size, fun k hk hn => hk2 k hk (fun e => hn (by rw [e]; exact h.qb))⟩⟩⟩
  · exact {
      box := ((h.box.later hb).set 3 v').set 2 wv2
      ps := h.ps.frame fun y hy _ => hk2 _ (hnR _ (hRR _ (h.pR y hy))).1 (hnR _ (hRR _ (h.pR y hy))).2
      ws := own_base (own_frame hown fun k hk => hk1 k (by have := (own_low hown k hk).1; omega)) (Nat.zero_le _)
      ph := h'.frame (fun k hk => hk2 k (hnR k hk).1 (hnR k hk).2) (fun P _ hq hn hP => by
        obtain ⟨cs, hP⟩ := hP
        exact ⟨hk2 P hP.lt (hP.apart h.box (by decide)), .inl hq, hn⟩) (fun _ h => h)
      sub := fun k hk => .inl (hRQ k hk)
      qb := .inl h.qb
      rb := hRb
      pR := fun x hx => hRR _ (h.pR x hx)
      pS := h.pS
      wQ := fun k hk => ⟨.inr hk, fun hr => by have := (hnR k hr).1; have := (own_low hown k hk).1; omega⟩
      lp := h.lp
      lw := h.lp
      wn := fun _ hp hn => by
        rcases hown.2 with ⟨_, e0⟩ | ⟨g0, cap, cur, e, _⟩
        · exact hp (List.length_eq_zero_iff.1 e0)
        · rw [e] at hn; cases hn
      lt := fun k hk => by
        rw [hz]
        rcases hk with hk | hk
        · exact Nat.lt_of_lt_of_le (h.lt k hk) hb.size
        · exact (own_low hown k hk).2 }
  · rcases hk with hk | hk
    · exact .inl hk
    · exact .inr (own_low hown k hk).1

set_option maxRecDepth 100000 in
set_option maxHeartbeats 4000000 in
theorem enter_any (h : GA w C Q R id g pa pc wv v) (T : TypeId) (V : Value) (ph' : Ph) (h' : PhAt w C Q R' id g.b (.iface T V) ph') (hRR : ∀ k, R k → R' k) (hRQ : ∀ k, R' k → Q k) (hRb : ¬ R' g.b) (h0 : ph' ≠ .nul) :
    Calls Tryz.prog 36 #[ptr g.b, .iface T V] w fun e w' => ∃ v2 Q', e = .returned v2 ∧ MsgsN w w' v2 (g.ps.map fun s => wordS g.ps id s ph') ∧ GangAt w' C Q' id ⟨g.b, g.ps, g.ps, ph'⟩ ∧ Turn w w' Q Q' ∧ w.grownBy w' (some g.b) := by
  obtain ⟨n, hn⟩ : ∃ n, g.ps.length = n := ⟨_, rfl⟩
  have hl := h.lp
  have kc := clone_own pa g.ps.length pc g.ps w h.ps rfl (by omega) h.pS
  have kE := fun w1 wv2 (hb : Below w.heap.size w w1) (hown : w1.ownsRow w.heap.size 3 1 wv2 g.ps.length (g.ps.map natV)) => h.entered hb h' hRR hRQ hRb hown
  have hbox := h.box
  rw [hn] at kc hbox hl
  have c1 : w.cell? ⟨g.b, 1, none⟩ = some (.slice pa n pc) := hbox.cell rfl
  have hb1 := fun w1 (hb : Below w.heap.size w w1) => hbox.later hb
  clear h h'
  go_enter Tryz.func36, Tryz.ntmps36
  go_upto_region 2 with (go_at_call 63; refine kc.mono ?_; rintro e w1 ⟨v1, rfl, hown, hb⟩; obtain ⟨wa, wc, rfl, _, _, _, _⟩ := own_cut hown; have bb := hb1 _ hb; have f3 := bb.frozen; obtain ⟨d0, d1, d2, d3⟩ := bb.cells4)
  rw [hn] at kE
  obtain ⟨Q', hG, hT⟩ := kE w1 _ hb hown
  have ks := say_any hG h0 pa n pc g.ps hG.ps hn (by omega)
  have e1 : ((w1.setCell ⟨g.b, 3, none⟩ (.iface T V)).setCell ⟨g.b, 2, none⟩ (.slice wa n wc)).cell? ⟨g.b, 1, none⟩ = some (.slice pa n pc) := hG.box.cell (by rw [← hn]; rfl)
  have hzW : w.heap.size ≤ ((w1.setCell ⟨g.b, 3, none⟩ (.iface T V)).setCell ⟨g.b, 2, none⟩ (.slice wa n wc)).heap.size := hT.kept.size
  clear kE hb1 hown d0 d1 d2 d3 f3 bb
  have hgr : w.grownBy ((w1.setCell ⟨g.b, 3, none⟩ (.iface T V)).setCell ⟨g.b, 2, none⟩ (.slice wa n wc)) (some g.b) := grown_trans (grown_trans (below_grown hb _) (grown_set w1 g.b 3 _)) (grown_set _ g.b 2 _)
  generalize (w1.setCell ⟨g.b, 3, none⟩ (.iface T V)).setCell ⟨g.b, 2, none⟩ (.slice wa n wc) = W at *
  go_wp2_with (go_at_call 86; refine ks.mono ?_; rintro e w3 ⟨v3, rfl, hM, hb3⟩)
  go_ret
  exact ⟨v3, Q', rfl, hM.low hzW, ⟨_, _, _, _, _, hG.later hb3⟩, hT.trans (.of_below hb3), grown_trans hgr (below_grown hb3 _)⟩

end

end Go.Proofs.YtlehlbgaboifoabGreatDoor

/- A gang: drop, tick. -/
namespace Go.Proofs.YtlehlbgaboifoabGreatDoor
open Go.RowKit Go.Maps Go.Shelf
set_option linter.unusedSimpArgs false
set_option linter.unusedVariables false

/-- A gang comes to a phase. -/
def GS.at (g : GS) (ph : Ph) : GS := ⟨g.b, g.ps, g.ps, ph⟩
/-- What is said to all of a gang's peers. -/
def toAll (id : Nat) (ps : List Nat) (ph : Ph) : List MD := ps.map fun s => wordS ps id s ph
/-- What becomes of a gang, what is told. -/
def GangPost (w : World) (C : Nat) (Q : Nat → Prop) (id : Nat) (g' : GS) (ds : List MD) (e : Ending) (w' : World) : Prop :=
  ∃ v Q', e = .returned v ∧ MsgsN w w' v ds ∧ GangAt w' C Q' id g' ∧ Turn w w' Q Q'

section
variable {w w' w1 : World} {C : Nat} {Q R R' : Nat → Prop} {id : Nat} {g : GS} {pa : Option Addr} {pc : Nat} {wv v : Value}

theorem enter_dec (h : GA w C Q R id g pa pc wv v) (n : Nat) (h3 : 3 ≤ n) (h5 : n ≤ 5) :
    Calls Tryz.prog 36 #[ptr g.b, .iface 140 (.int .i64 n)] w (GangPost w C Q id (g.at (.dec n)) (toAll id g.ps (.dec n))) :=
  (enter_any h 140 (.int .i64 n) (.dec n) ⟨rfl, h3, h5⟩ (fun _ h => h) h.sub h.rb (by simp)).mono fun e w' ⟨v, Q', h1, h2, h3, h4, _⟩ => ⟨v, Q', h1, h2, h3, h4⟩

set_option maxRecDepth 100000 in
theorem drop_any (h : GA w C Q R id g pa pc wv v) :
    Calls Tryz.prog 41 #[ptr g.b] w (GangPost w C Q id (g.at (.dec 4)) (toAll id g.ps (.dec 4))) := by
  have k := enter_dec h 4 (by decide) (by decide)
  clear h
  go_enter Tryz.func41, Tryz.ntmps41
  go_wp2_with (go_at_call 36; refine k.mono ?_; rintro e w1 ⟨v, Q', rfl, h⟩)
  go_ret
  exact ⟨v, Q', rfl, h⟩

/-- A tick older. -/
def Ph.older : Ph → Ph
  | .nul => .nul
  | .hold a p => .hold (a + 1) p
  | .prep a => .prep (a + 1)
  | .dec n => .dec n
theorem Ph.older_ne {ph : Ph} (h : ph ≠ .nul) : ph.older ≠ .nul := by
  cases ph with
  | nul => exact absurd rfl h
  | hold a p => exact fun e => by cases e
  | prep a => exact fun e => by cases e
  | dec n => exact fun e => by cases e
def Ph.age : Ph → Nat
  | .nul => 0
  | .hold a _ => a
  | .prep a => a
  | .dec _ => 0
def Ph.open : Ph → Bool
  | .nul => false
  | .dec _ => false
  | _ => true

theorem GA.aged (h : GA w C Q R id g pa pc wv v) (P : Nat) (hv : v = .iface 92 (ptr P)) (hP : ∃ cs, Box w P cs 138) (hq : Q P) (hn : ¬ R P) (ho : g.ph.open = true) (ha : g.ph.age < 100) :
    GA (w.setCell ⟨P, 2, none⟩ (.int .i64 (g.ph.age + 1 : Nat))) C Q R id ⟨g.b, g.ps, g.ws, g.ph.older⟩ pa pc wv v := by
  obtain ⟨cs, hP⟩ := hP
  obtain ⟨hPb, hPw⟩ := h.pne hP
  have hk : ∀ k, k ≠ P → (w.setCell ⟨P, 2, none⟩ (.int .i64 (g.ph.age + 1 : Nat))).heap[k]? = w.heap[k]? := fun k hk => setCell_other _ _ _ _ _ hk
  have hR : ∀ k, R k → (w.setCell ⟨P, 2, none⟩ (.int .i64 (g.ph.age + 1 : Nat))).heap[k]? = w.heap[k]? := fun k hr => hk k (fun e => hn (by rw [← e]; exact hr))
  have hph := h.ph
  refine ⟨h.box.frame (hk _ (fun e => hPb e.symm)), h.ps.frame fun y hy _ => hR _ (h.pR y hy), own_frame h.ws fun k hk' => hk k (fun e => hPw (by rw [← e]; exact hk')), ?_, h.sub, h.qb, h.rb, h.pR, h.pS, h.wQ, h.lp, h.lw, fun h0 => h.wn (fun e => h0 (by simp only [e]; rfl)), fun k hk => by simpa [World.setCell] using h.lt k hk⟩
  obtain ⟨b, ps, ws, ph⟩ := g
  cases ph with
  | nul => cases ho
  | hold age pods =>
    obtain ⟨ha2, P', gb, xb, cb, pb, a, c, e, hh⟩ := hph
    rw [hv] at e
    cases e
    simp only [Ph.age] at ha hk hR ⊢
    exact ⟨by omega, P, gb, xb, cb, pb, a, c, hv, hh.bP.set 2 _, hh.bg.frame (hR _ hh.rg), hh.hp.frame hh.rs hR, hh.bx.frame (hR _ hh.rx), hh.bc.frame (hR _ hh.rc), hh.bp.frame (hR _ hh.rp), hh.qP, hh.nP, hh.rg, hh.rx, hh.rc, hh.rp, hh.rs⟩
  | prep age =>
    obtain ⟨ha2, P', xb, cb, e, hh⟩ := hph
    rw [hv] at e
    cases e
    simp only [Ph.age] at ha hk hR ⊢
    exact ⟨by omega, P, xb, cb, hv, hh.bP.set 2 _, hh.bx.frame (hR _ hh.rx), hh.bc.frame (hR _ hh.rc), hh.qP, hh.nP, hh.rx, hh.rc⟩
  | dec n => cases ho

/-- The poll of a gang of which nothing is decided. -/
theorem GA.poll (h : GA w C Q R id g pa pc wv v) (ho : g.ph.open = true) : ∃ P cs, v = .iface 92 (ptr P) ∧ Box w P cs 138 ∧ Q P ∧ ¬ R P ∧ w.cell? ⟨P, 2, none⟩ = some (.int .i64 g.ph.age) ∧ g.ph.age ≤ 100 := by
  have hph := h.ph
  obtain ⟨b, ps, ws, ph⟩ := g
  cases ph with
  | nul => cases ho
  | hold age pods =>
    obtain ⟨ha2, P', gb, xb, cb, pb, a, c, e, hh⟩ := hph
    exact ⟨P', _, e, hh.bP, hh.qP, hh.nP, hh.bP.cell rfl, ha2⟩
  | prep age =>
    obtain ⟨ha2, P', xb, cb, e, hh⟩ := hph
    exact ⟨P', _, e, hh.bP, hh.qP, hh.nP, hh.bP.cell rfl, ha2⟩
  | dec n => cases ho
theorem GA.verdict (h : GA w C Q R id g pa pc wv v) {n : Nat} (ho : g.ph = .dec n) : v = .iface 140 (.int .i64 n) ∧ 3 ≤ n ∧ n ≤ 5 := by
  have hph := h.ph
  rw [ho] at hph
  exact hph

/-- What a tick leaves, what is told. -/
def tickG (g : GS) : GS := if g.ph.open then (if g.ph.age + 1 = 8 then g.at (.dec 4) else ⟨g.b, g.ps, g.ws, g.ph.older⟩) else g
def tickM (id : Nat) (g : GS) : List MD := (tickG g).ws.map fun s => wordS g.ps id s (tickG g).ph

set_option maxRecDepth 100000 in
set_option maxHeartbeats 4000000 in
theorem tick_any (h : GA w C Q R id g pa pc wv v) (h0 : g.ph ≠ .nul) (hA : g.ph.age < 100) :
    Calls Tryz.prog 39 #[ptr g.b] w (GangPost w C Q id (tickG g) (tickM id g)) := by
  have c2 : w.cell? ⟨g.b, 2, none⟩ = some wv := h.box.cell rfl
  have c3 : w.cell? ⟨g.b, 3, none⟩ = some v := h.box.cell rfl
  cases ho : g.ph.open with
  | false =>
    cases hph : g.ph with
    | nul => exact absurd hph h0
    | hold a p => rw [hph] at ho; cases ho
    | prep a => rw [hph] at ho; cases ho
    | dec n =>
      obtain ⟨rfl, _, _⟩ := h.verdict hph
      have kp := poll_no g.b n w c3
      have e1 : tickG g = g := by unfold tickG; rw [ho]; rfl
      have e2 : tickM id g = g.ws.map fun s => wordS g.ps id s g.ph := by unfold tickM; rw [e1]
      rw [e1, e2]
      obtain ⟨wa, wc, rfl, _, _, _, _⟩ := own_cut h.ws
      have hlw := h.lw
      obtain ⟨m, hm⟩ : ∃ m, g.ws.length = m := ⟨_, rfl⟩
      have hws := h.ws
      have ks := fun hN => say_any h h0 wa g.ws.length wc g.ws hN rfl (by omega)
      rw [hm] at c2 ks hws
      have ks := ks (nats_own hws)
      have hT := fun w' (hb : Below w.heap.size w w') => h.later hb
      clear h hph ho e1 e2 hws
      go_enter Tryz.func39, Tryz.ntmps39
      go_wp2_with (first
        | (go_at_call 40; refine kp.mono ?_; rintro e w1 ⟨rfl, rfl⟩)
        | (go_at_call 86; refine ks.mono ?_; rintro e w2 ⟨v2, rfl, hM, hb2⟩))
      go_ret
      exact ⟨v2, Q, rfl, hM, ⟨_, _, _, _, _, hT _ hb2⟩, .of_below hb2⟩
  | true =>
    obtain ⟨P, cs, rfl, hP, hq, hn, cP, ha⟩ := h.poll ho
    have kp := poll_yes g.b P w c3
    have hG := h.aged P rfl ⟨cs, hP⟩ hq hn ho hA
    have kd := drop_any hG
    obtain ⟨A, hAA⟩ : ∃ A, g.ph.age = A := ⟨_, rfl⟩
    have hf := hP.frozen 2
    have hTW : Turn w (w.setCell ⟨P, 2, none⟩ (.int .i64 (g.ph.age + 1 : Nat))) Q Q := ⟨fun _ h => h, fun _ h => .inl h, .of_grown (grown_set w P 2 _) hq⟩
    have hzW : (w.setCell ⟨P, 2, none⟩ (.int .i64 (g.ph.age + 1 : Nat))).heap.size = w.heap.size := by simp [World.setCell]
    obtain ⟨wa, wc, rfl, _, _, _, _⟩ := own_cut h.ws
    have hlw := h.lw
    obtain ⟨m, hm⟩ : ∃ m, g.ws.length = m := ⟨_, rfl⟩
    have hPb := (h.pne hP).1
    have hPb' : g.b ≠ P := fun e => hPb e.symm
    have hcP := hP.cell (i := 2) (v := .int .i64 g.ph.age)
    have cP' : (w.setCell ⟨P, 2, none⟩ (.int .i64 (g.ph.age + 1 : Nat))).cell? ⟨P, 2, none⟩ = some (.int .i64 (g.ph.age + 1 : Nat)) := by
      have h2 : ∃ cs', Box (w.setCell ⟨P, 2, none⟩ (.int .i64 (g.ph.age + 1 : Nat))) P cs' 138 ∧ cs'[2]? = some (.int .i64 (g.ph.age + 1 : Nat)) := by
        refine ⟨_, hP.set 2 _, ?_⟩
        have : 2 < cs.size := by
          have h3 : w.cell? ⟨P, 2, none⟩ = cs[2]? := by unfold Box at hP; simp [World.cell?, hP]
          rw [h3] at cP
          exact (Array.getElem?_eq_some_iff.1 cP).1
        simp [this]
      obtain ⟨cs', h3, h4⟩ := h2
      exact h3.cell h4
    have c2' : (w.setCell ⟨P, 2, none⟩ (.int .i64 (g.ph.age + 1 : Nat))).cell? ⟨g.b, 2, none⟩ = some (.slice wa g.ws.length wc) := hG.box.cell rfl
    have ks := say_any hG (Ph.older_ne h0) wa g.ws.length wc g.ws (nats_own hG.ws) rfl (by omega)
    rw [hAA] at kd hTW hzW cP cP' hG c2' hA ks
    rw [hm] at c2' c2 hlw
    simp only [hm] at ks
    have eT : tickG g = if A + 1 = 8 then g.at (.dec 4) else ⟨g.b, g.ps, g.ws, g.ph.older⟩ := by unfold tickG; rw [ho, hAA]; rfl
    have eM : tickM id g = if A + 1 = 8 then toAll id g.ps (.dec 4) else g.ws.map fun s => wordS g.ps id s g.ph.older := by
      unfold tickM; rw [eT]; split <;> rfl
    rw [eT, eM]
    have hG0 := hG
    clear hG h ho hAA hm hcP eT eM
    by_cases h8 : A + 1 = 8
    · have h7 : A = 7 := by omega
      subst h7
      simp only [if_true]
      have e8 : ((7 + 1 : Nat) : Int) = 8 := rfl
      have e7 : ((7 : Nat) : Int) = 7 := rfl
      rw [e8] at kd hTW hzW cP'
      rw [e7] at cP
      clear e8 e7 hA ks c2'
      go_enter Tryz.func39, Tryz.ntmps39
      go_wp2_with (first
        | (go_at_call 40; refine kp.mono ?_; rintro e w1 ⟨rfl, rfl⟩)
        | (go_at_call 41; refine kd.mono ?_; rintro e w2 ⟨v2, Q2, rfl, hM, hG2, hT2⟩))
      go_ret
      exact ⟨v2, Q2, rfl, hM.low (Nat.le_of_eq hzW.symm), hG2, hTW.trans hT2⟩
    · rw [if_neg h8, if_neg h8]
      have e8 : ((A + 1 : Nat) : Int) = (A : Int) + 1 := rfl
      have hGl := fun w' (hb : Below (w.setCell ⟨P, 2, none⟩ (.int .i64 (A + 1 : Nat))).heap.size (w.setCell ⟨P, 2, none⟩ (.int .i64 (A + 1 : Nat))) w') => hG0.later hb
      rw [e8] at ks hTW hzW cP' c2' hGl
      have hne8 : ((A : Int) + 1 == 8) = false := by simp; omega
      clear e8 kd h8 hG0
      go_enter Tryz.func39, Tryz.ntmps39
      go_wp2_with (first
        | (go_at_call 40; refine kp.mono ?_; rintro e w1 ⟨rfl, rfl⟩)
        | (go_at_call 86; refine ks.mono ?_; rintro e w2 ⟨v2, rfl, hM, hb2⟩))
      go_ret
      exact ⟨v2, Q, rfl, hM.low (Nat.le_of_eq hzW.symm), ⟨_, _, _, _, _, hGl _ hb2⟩, hTW.trans (.of_below hb2)⟩
end

end Go.Proofs.YtlehlbgaboifoabGreatDoor
