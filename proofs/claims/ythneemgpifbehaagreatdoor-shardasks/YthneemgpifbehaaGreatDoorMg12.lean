/- The contract of Take of package ledger. -/
import Derived.Test.YthneemgpifbehaaGreatDoorMg10
import Derived.Test.YthneemgpifbehaaGreatDoorMg11
namespace Go.Proofs.YthneemgpifbehaaGreatDoor
open Go.RowKit Go.Maps

/-- What Take answers. -/
def takeE (E : List (ByteArray × Rec)) (G : List (Int × Grp)) (g : Int) (ps : List Pl) : Int :=
  if (look G g).isSome then 4 else if ps = [] then 3 else if checkF E ps ≠ 0 then checkF E ps else if withF E [] ps = none then 6 else 0
/-- What Take leaves. -/
def TakePost (w : World) (L : Nat) (fp : Nat → Prop) (p q : Option Nat) (E : List (ByteArray × Rec)) (G : List (Int × Grp)) (g : Int) (ps : List Pl) (A : Int) (w' : World) : Prop :=
  (A ≠ 0 ∧ Below w.heap.size w w') ∨
  (A = 0 ∧ ∃ fp' M a c, withF E [] ps = some M ∧ IsL w' L fp' p q (mergeF E M) (put iK G g ⟨a, c, ps⟩) ∧ (∀ b, fp b → fp' b) ∧ (∀ b, fp' b → fp b ∨ w.heap.size ≤ b) ∧ Kept fp w w')

theorem check_right {E : List (ByteArray × Rec)} : ∀ {ps : List Pl}, checkF E ps = 0 → ∀ p ∈ ps, 0 ≤ p.cpu ∧ 0 ≤ p.mem
  | q :: t, h, p, hp => by
    unfold checkF at h
    split at h
    · cases h
    · split at h
      · cases h
      · rename_i h1 h2
        rcases List.mem_cons.1 hp with rfl | hp
        · simpa using h2
        · exact check_right h p hp
theorem check_some {E : List (ByteArray × Rec)} : ∀ {ps : List Pl}, checkF E ps = 0 → ∀ p ∈ ps, look E p.node ≠ none
  | q :: t, h, p, hp => by
    unfold checkF at h
    split at h
    · cases h
    · split at h
      · cases h
      · rename_i h1 h2
        rcases List.mem_cons.1 hp with rfl | hp
        · exact h1
        · exact check_some h p hp
theorem with_len {E : List (ByteArray × Rec)} : ∀ {ps : List Pl} {A M : List (ByteArray × Rec)}, Apart A → withF E A ps = some M → M.length ≤ A.length + ps.length
  | [], A, M, _, h => by simp [withF] at h; subst h; simp
  | q :: t, A, M, ha, h => by
    unfold withF at h
    split at h
    · have := with_len (ha.put sK _ _) h
      rw [length_put sK ha] at this
      simp only [List.length_cons]
      split at this <;> omega
    · cases h

theorem IsL.gown {w : World} {L : Nat} {fp : Nat → Prop} {p : Option Nat} {b : Nat} {E : List (ByteArray × Rec)} {G : List (Int × Grp)} (h : IsL w L fp p (some b) E G) : GOwn w b G := by
  obtain ⟨b', hb', hG⟩ := h.gangs.resolve_left (by simp)
  cases hb'
  exact hG
theorem gang_put {w : World} {b : Nat} {G : List (Int × Grp)} (h : GOwn w b G) (g : Int) (hg : (Lit.int .i64 g).wf = true) (hG : G.length ≤ 1000) (a : Option Addr) (n c : Nat) (ps : List Pl) (hl : ps.length = n) :
    ∃ w', (Instr.mapUpdate 150 (.map (some b)) (.int .i64 g) (.slice a n c)).run Tryz.prog w = .ok () w' ∧ GOwn w' b (put iK G g ⟨a, c, ps⟩) ∧ w.grownBy w' (some b) := by
  subst hl
  obtain ⟨w9, hrun, hown, hgrow⟩ := World.ownsMap.update (show GOwn w b G from h) kI Tryz.underlying150 (by unfold maxLen; omega) (keyI hg) (val := Grp.val ⟨a, c, ps⟩) (d := .held (Grp.val ⟨a, c, ps⟩)) (ps := []) rfl
  exact ⟨w9, hrun, GOwn.put hown, hgrow⟩

set_option maxRecDepth 100000 in
set_option maxHeartbeats 8000000 in
theorem take_any (w : World) (L : Nat) (fp : Nat → Prop) (p q : Option Nat) (E : List (ByteArray × Rec)) (G : List (Int × Grp)) (h : IsL w L fp p q E G) (hF : ∀ e ∈ E, e.2.Fair) (g : Int) (hg : (Lit.int .i64 g).wf = true) (a : Option Addr) (n c : Nat) (ps : List Pl) (hP : Pls w a ps) (hl : ps.length = n) (hsp : SP a)
    (hz : ∀ p ∈ ps, p.node.size ≤ maxLen) (hfa : ∀ x, a = some x → ps ≠ [] → ¬ fp x.block) (hEl : E.length ≤ 1000) (hGl : G.length ≤ 1000) :
    Calls Tryz.prog 111 #[.pointer (some ⟨L, 0, none⟩), .int .i64 g, .slice a n c] w fun e w' => e = .returned (.int .i64 (takeE E G g ps)) ∧ TakePost w L fp p q E G g ps (takeE E G g ps) w' := by
  have hn := hP.1
  rw [hl] at hn
  have hlk := h.gangs.look2 g hg
  have c0 : w.cell? ⟨L, 1, none⟩ = some (.map q) := h.box.cell rfl
  obtain ⟨A, hA⟩ : ∃ A, takeE E G g ps = A := ⟨_, rfl⟩
  rw [hA]
  have hA : Hid (takeE E G g ps = A) := hA
  cases hgs : look G g with
  | some r =>
    have e5 : Hid (A = 4) := by show _ = _; rw [← hA.out]; unfold takeE; rw [hgs]; rfl
    rw [hgs] at hlk
    obtain ⟨a', c', ps'⟩ := r
    simp only [Option.getD_some, Option.isSome_some, Grp.val] at hlk
    go_enter Tryz.func111, Tryz.ntmps111
    go_wp2
    go_ret
    exact ⟨by rw [e5.out]; rfl, .inl ⟨by rw [e5.out]; decide, Below.refl _ _⟩⟩
  | none =>
    rw [hgs] at hlk
    simp only [Option.getD_none, Option.isSome_none, zgrp, Grp.val] at hlk
    cases ps with
    | nil =>
      have e5 : Hid (A = 3) := by show _ = _; rw [← hA.out]; unfold takeE; rw [hgs]; rfl
      obtain rfl : n = 0 := hl.symm
      go_enter Tryz.func111, Tryz.ntmps111
      go_wp2
      go_ret
      exact ⟨by rw [e5.out]; rfl, .inl ⟨by rw [e5.out]; decide, Below.refl _ _⟩⟩
    | cons p0 t0 =>
      have hA2 : Hid (A = if checkF E (p0 :: t0) ≠ 0 then checkF E (p0 :: t0) else if withF E [] (p0 :: t0) = none then 6 else 0) := by
        show _ = _
        rw [← hA.out]; unfold takeE; rw [hgs]; rfl
      have hn0 : ¬ n = 0 := by rw [← hl]; simp
      have hne : (p0 :: t0) ≠ [] := by simp
      clear hA
      generalize p0 :: t0 = ps at hP hl hz hA2 hne hfa ⊢
      have kc := check_any w L fp p q E G h a n c ps hP hl hz
      obtain ⟨C, hC⟩ : ∃ C, checkF E ps = C := ⟨_, rfl⟩
      rw [hC] at kc
      by_cases hC0 : C = 0
      case neg =>
        have e5 : Hid (A = C) := by show _ = _; rw [hA2.out, hC, if_pos hC0]
        have hne0 : Hid (¬ C = 0) := hC0
        clear hA2 hC
        go_enter Tryz.func111, Tryz.ntmps111
        go_wp2_with (go_at_call 150; refine kc.mono ?_; rintro e w1 ⟨rfl, hb1⟩)
        go_ret
        exact ⟨by rw [e5.out]; rfl, .inl ⟨by rw [e5.out]; exact hne0.out, hb1⟩⟩
      subst hC0
      have hA3 : Hid (A = if withF E [] ps = none then 6 else 0) := by show _ = _; rw [hA2.out, hC]; rfl
      have hq := check_right hC
      have hs := check_some hC
      clear hA2
      go_enter Tryz.func111, Tryz.ntmps111
      go_upto_region 9 with (go_at_call 150; refine kc.mono ?_; rintro e w1 ⟨rfl, hb1⟩)
      have hI1 := h.later hb1
      have kw := with_any w1 L fp p q E G hI1 hF a n c ps (hP.later hb1) hl hz hq
      cases hw : withF E [] ps with
      | none =>
        rw [hw] at kw
        have e5 : Hid (A = 6) := by show _ = _; rw [hA3.out, hw]; rfl
        clear hA3
        have kw2 : Calls Tryz.prog 151 #[.pointer (some ⟨L, 0, none⟩), .slice a n c] w1 fun e w' => e = .returned (.tuple #[.map none, .int .i64 6]) ∧ Below w1.heap.size w1 w' := kw.mono (by
          rintro e w' ⟨(⟨_, h1⟩ | ⟨M, hM, _⟩), h2⟩
          · exact ⟨h1, h2⟩
          · cases hM)
        go_wp2_with (go_at_call 151; refine kw2.mono ?_; rintro e w2 ⟨rfl, hb2⟩)
        go_ret
        have hb : Below w.heap.size w w2 := hb1.trans (hb2.mono hb1.size)
        exact ⟨by rw [e5.out]; rfl, .inl ⟨by rw [e5.out]; decide, hb⟩⟩
      | some M =>
        rw [hw] at kw
        have e5 : Hid (A = 0) := by show _ = _; rw [hA3.out, hw]; rfl
        clear hA3
        obtain ⟨pb, rfl, hN1⟩ : ∃ b, p = some b ∧ NOwn w1 b E := by
          rcases hI1.nodes with ⟨_, h0⟩ | hh
          · subst h0
            cases ps with
            | nil => exact absurd rfl hne
            | cons x y => exact absurd rfl (hs x (by simp))
          · exact hh
        obtain ⟨qb, rfl⟩ : ∃ b, q = some b := by
          cases q with
          | none => have := h.both.2 rfl; cases this
          | some b => exact ⟨b, rfl⟩
        have hMl : M.length ≤ n := by
          have := with_len (List.Pairwise.nil : Apart ([] : List (ByteArray × Rec))) hw
          simp at this
          omega
        have kw2 : Calls Tryz.prog 151 #[.pointer (some ⟨L, 0, none⟩), .slice a n c] w1 fun e w' => e = .returned (.tuple #[.map (some w1.heap.size), .int .i64 0]) ∧ NOwn w' w1.heap.size M ∧ (∀ e ∈ M, e.2.Ok w1 fp ∧ e.2.Fair) ∧ Below w1.heap.size w1 w' := kw.mono (by
          rintro e w' ⟨(⟨hM, _⟩ | ⟨M', hM, h1, h3, h4⟩), h2⟩
          · cases hM
          · cases hM; exact ⟨h1, h3, h4, h2⟩)
        go_upto_region 12 with (go_at_call 151; refine kw2.mono ?_; rintro e w2 ⟨rfl, hNM, hMo, hb2⟩)
        have hI2 := hI1.later hb2
        have hP2 := (hP.later hb1).later hb2
        have hN2 : NOwn w2 pb E := hN1.kept (hb2.block _ hN1.lt)
        have hbW : Below w.heap.size w w2 := hb1.trans (hb2.mono hb1.size)
        have hpb := hN1.lt
        have kcp := copy_any pb w1.heap.size E M w2 hN2 hNM (by omega) (by unfold maxLen; omega)
        have hnb : ¬ fp w1.heap.size := hI1.outs
        have c2 : w2.cell? ⟨L, 0, none⟩ = some (.map (some pb)) := hI2.box.cell rfl
        have hMo2 : ∀ e ∈ M, e.2.Ok w2 fp := fun e he => (hMo e he).1.frame fun b hb => hb2.block b (hI1.lt b hb)
        generalize w1.heap.size = N1 at kcp hnb ⊢
        clear kc kw kw2 hI1 hN1 hb1 hb2 hNM hMo c0 hlk
        go_upto_region 13 with (go_at_call 152; refine kcp.mono ?_; rintro e w3 ⟨rfl, hN3, hg3⟩)
        have hI3 : IsL w3 L fp (some pb) (some qb) (mergeF E M) G := hI2.turnN hN3 hg3 (by
          intro e he
          have hmem : ∀ (M' E' : List (ByteArray × Rec)), e ∈ mergeF E' M' → e ∈ E' ∨ e ∈ M' := by
            intro M'
            induction M' with
            | nil => intro E' h; exact .inl h
            | cons x t ih =>
              intro E' h
              rcases ih _ h with h | h
              · rcases (mem_put sK).1 h with rfl | ⟨h, _⟩
                · exact .inr (by simp)
                · exact .inl h
              · exact .inr (by simp [h])
          rcases hmem M E he with he | he
          · exact (hI2.okE e he).grown hg3 (own_map hN2)
          · exact (hMo2 e he).grown hg3 (own_map hN2))
        have hP3 := hP2.grown hg3 (own_map hN2)
        have hk3 : Kept fp w w3 := (Kept.of_below hbW).trans (.of_grown hg3 (hI2.fp1 pb rfl))
        have kpl := clone_pls a n c ps w3.drew hP3 hl hsp
        have c3 : w3.cell? ⟨L, 1, none⟩ = some (.map (some qb)) := hI3.box.cell rfl
        clear hI2 hP2 hN2 kcp c2 hMo2 hg3 hN3 hbW
        have hbd : Below w3.heap.size w3 w3.drew := Below.drew (Below.refl _ _)
        go_region_with (go_at_call 123; refine kpl.mono ?_; rintro e w4 ⟨a', c', rfl, u1, u2, u3, u4, u5⟩; have hb4 : Below w3.heap.size w3 w4 := hbd.trans u5; have hI4 := hI3.later hb4; have c4 : w4.cell? ⟨L, 1, none⟩ = some (.map (some qb)) := hI4.box.cell rfl; obtain ⟨w5, hrun, hown, hgrow⟩ := gang_put hI4.gown g hg hGl a' n c' ps hl)
        all_goals
          go_wp2
          go_ret
          refine ⟨by rw [e5.out]; rfl, .inr ⟨e5.out, fun b => fp b ∨ (w3.heap.size ≤ b ∧ b < w4.heap.size), M, a', c', hw, ?_, fun b hb => .inl hb, ?_, ?_⟩⟩
          · refine (hI4.wide (fun b hb => .inl hb) ?_).putG hown hgrow ⟨u1, fun x hx _ => .inr (by have := u3 x hx; exact this), by rw [hl]; exact u4, u2⟩
            rintro b (hb | hb)
            · exact hI4.lt b hb
            · exact hb.2
          · rintro b (hb | hb)
            · exact .inl hb
            · exact .inr (Nat.le_trans hk3.size hb.1)
          · exact (hk3.trans (.of_below hb4)).trans (.of_grown hgrow (hI4.fp2 qb rfl))

end Go.Proofs.YthneemgpifbehaaGreatDoor
