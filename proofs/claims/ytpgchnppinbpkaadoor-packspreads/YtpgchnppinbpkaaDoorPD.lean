/- The contract of Pack. -/
import Derived.Test.YtpgchnppinbpkaaDoorPC
namespace Go.Proofs.YtpgchnppinbpkaaDoor
open Go.RowKit Go.Maps
set_option linter.unusedSimpArgs false
set_option linter.unusedVariables false

theorem core_parts {r r' : Rec} (h : r.core = r'.core) : r.nm = r'.nm ∧ r.cpu = r'.cpu ∧ r.mem = r'.mem ∧ r.xs = r'.xs ∧ r.ys = r'.ys ∧ r.cl = r'.cl := by
  simp only [Rec.core, Prod.mk.injEq] at h
  exact h
theorem why_core {G : List (Int × Grp)} {l : List Pl} {p : PodT} {r r' : Rec} (h : r.core = r'.core) : whyR G l p r = whyR G l p r' := by
  obtain ⟨h1, h2, h3, h4, h5, h6⟩ := core_parts h
  simp only [whyR, h1, h2, h3, h4, h5, h6]
theorem sc_core {G : List (Int × Grp)} {l : List Pl} {mode : Int} {p : PodT} {r r' : Rec} (h : r.core = r'.core) : scR G l mode p r = scR G l mode p r' := by
  obtain ⟨h1, h2, h3, h4, h5, h6⟩ := core_parts h
  simp only [scR, h1, h2, h3]
theorem cand_map {G : List (Int × Grp)} {l : List Pl} {p : PodT} {β : Type} (f : Rec → β) (hf : ∀ r r', r.core = r'.core → f r = f r') : ∀ {R R' : List Rec}, R.map Rec.core = R'.map Rec.core → (candR G l p R).map f = (candR G l p R').map f
  | [], [], _ => rfl
  | [], _ :: _, h => by simp at h
  | _ :: _, [], h => by simp at h
  | r :: t, r' :: t', h => by
    simp only [List.map_cons, List.cons.injEq] at h
    have ih := cand_map (G := G) (l := l) (p := p) f hf h.2
    have hw := why_core (G := G) (l := l) (p := p) h.1
    unfold candR at ih ⊢
    simp only [List.filter_cons, hw]
    split
    · simp only [List.map_cons, ih, hf r r' h.1]
    · exact ih
def bestOf (ss : List ByteArray) (zs : List Int) : Option ByteArray := if ss = [] then none else some (ss.getD (bstAt ss zs ss.length).toNat ByteArray.empty)
theorem best_of (G : List (Int × Grp)) (l : List Pl) (mode : Int) (p : PodT) (R : List Rec) : bestR G l mode p R = bestOf ((candR G l p R).map (·.nm)) ((candR G l p R).map (scR G l mode p)) := by
  unfold bestR bestOf
  cases h : candR G l p R with
  | nil => simp
  | cons x t => simp
theorem best_core {G : List (Int × Grp)} {l : List Pl} {mode : Int} {p : PodT} {R R' : List Rec} (h : R.map Rec.core = R'.map Rec.core) : bestR G l mode p R = bestR G l mode p R' := by
  rw [best_of, best_of, cand_map (fun r => r.nm) (fun r r' hc => (core_parts hc).1) h, cand_map (scR G l mode p) (fun r r' hc => sc_core hc) h]
theorem lay_core {G : List (Int × Grp)} {mode : Int} {R R' : List Rec} (h : R.map Rec.core = R'.map Rec.core) : ∀ (ps : List PodT) (l : List Pl), layR G mode R l ps = layR G mode R' l ps
  | [], l => rfl
  | p :: t, l => by
    simp only [layR, best_core h]
    cases bestR G l mode p R' with
    | none => rfl
    | some s => exact lay_core h t _

/-- Places that fit, one behind the other. -/
def Fits (G : List (Int × Grp)) (R : List Rec) : List Pl → List Pl → Prop
  | _, [] => True
  | l, q :: t => (∃ r ∈ R, r.nm = q.node ∧ useC G l q.node + q.cpu ≤ r.cpu ∧ useM G l q.node + q.mem ≤ r.mem) ∧ 0 ≤ q.cpu ∧ 0 ≤ q.mem ∧ Fits G R (q :: l) t
theorem lay_fits {E : List (ByteArray × Rec)} {G : List (Int × Grp)} (hI : Inv E G) {mode : Int} {R : List Rec} (hR : ∀ r ∈ R, r.cpu ≤ 1099511627776 ∧ r.mem ≤ 1099511627776) : ∀ {ps : List PodT} {l l' : List Pl}, (∀ p ∈ ps, 0 ≤ p.cpu ∧ 0 ≤ p.mem) → LaidOk G l → layR G mode R l ps = some l' → ∃ qs, l' = qs.reverse ++ l ∧ qs.length = ps.length ∧ Fits G R l qs ∧ ∀ q ∈ qs, ∃ r ∈ R, r.nm = q.node
  | [], l, l', _, _, h => by
    simp only [layR, Option.some.injEq] at h
    exact ⟨[], by simp [h], rfl, trivial, by simp⟩
  | p :: t, l, l', hp, hl, h => by
    simp only [layR] at h
    cases hb : bestR G l mode p R with
    | none => rw [hb] at h; cases h
    | some s =>
      rw [hb] at h
      simp only at h
      have hpc := hp p (by simp)
      obtain ⟨qs, h1, h2, h3, h4⟩ := lay_fits hI hR (fun x hx => hp x (by simp [hx])) (LaidOk.add hI hl hb hpc hR) h
      obtain ⟨r, hr, rfl, hw⟩ := best_mem hb
      obtain ⟨g1, g2, g3, g4, g5, g6, g7, g8⟩ := good_of_why hw (hl.least hI r.nm) hpc (hR r hr)
      refine ⟨plP p r.nm :: qs, by rw [h1]; simp, by simp [h2], ⟨⟨r, hr, rfl, g5, g6⟩, hpc.1, hpc.2, h3⟩, ?_⟩
      intro q hq
      rcases List.mem_cons.1 hq with rfl | hq
      · exact ⟨r, hr, rfl⟩
      · exact h4 q hq
theorem fits_check {E : List (ByteArray × Rec)} {G : List (Int × Grp)} {R : List Rec} (hRE : ∀ r ∈ R, ∃ r', look E r.nm = some r' ∧ r'.core = r.core) : ∀ {qs l : List Pl}, Fits G R l qs → checkF E qs = 0
  | [], _, _ => rfl
  | q :: t, l, ⟨⟨r, hr, hn, _⟩, h1, h2, h3⟩ => by
    obtain ⟨r', hl, _⟩ := hRE r hr
    rw [hn] at hl
    unfold checkF
    rw [hl, if_neg (by simp), if_neg (by simp [h1, h2]), fits_check hRE h3]
theorem fits_with {E : List (ByteArray × Rec)} {G : List (Int × Grp)} {R : List Rec} (hRE : ∀ r ∈ R, ∃ r', look E r.nm = some r' ∧ r'.core = r.core) : ∀ {qs l : List Pl} {A : List (ByteArray × Rec)}, Fits G R l qs →
    (∀ s, (nowR E A s).u = useC G l s ∧ (nowR E A s).m = useM G l s ∧ (nowR E A s).cpu = ((look E s).getD zrec).cpu ∧ (nowR E A s).mem = ((look E s).getD zrec).mem) → withF E A qs ≠ none
  | [], _, A, _, _ => by simp [withF]
  | q :: t, l, A, ⟨⟨r, hr, hn, h4, h5⟩, h1, h2, h3⟩, hA => by
    obtain ⟨r', hl, hc⟩ := hRE r hr
    rw [hn] at hl
    obtain ⟨a1, a2, a3, a4⟩ := hA q.node
    rw [hl, Option.getD_some] at a3 a4
    obtain ⟨_, c2, c3, _⟩ := core_parts hc
    unfold withF
    rw [if_pos (by rw [a1, a2, a3, a4, c2, c3]; exact ⟨h4, h5⟩)]
    refine fits_with hRE h3 fun s => ?_
    obtain ⟨b1, b2, b3, b4⟩ := hA s
    by_cases e : q.node = s
    · subst e
      have en : nowR E (put sK A q.node ((nowR E A q.node).plus q)) q.node = (nowR E A q.node).plus q := by
        unfold nowR
        rw [look_put, if_pos rfl]
        rfl
      rw [en]
      refine ⟨?_, ?_, b3, b4⟩
      · show (nowR E A q.node).u + q.cpu = _
        rw [b1]; simp only [useC, sW, if_pos]; omega
      · show (nowR E A q.node).m + q.mem = _
        rw [b2]; simp only [useM, sW, if_pos]; omega
    · have en : nowR E (put sK A q.node ((nowR E A q.node).plus q)) s = nowR E A s := by
        unfold nowR
        rw [look_put, if_neg (fun h => e h.symm)]
      rw [en]
      refine ⟨?_, ?_, b3, b4⟩
      · rw [b1]; simp only [useC, sW, if_neg e]; omega
      · rw [b2]; simp only [useM, sW, if_neg e]; omega

/-- What Pack answers; the places. -/
def packE (E : List (ByteArray × Rec)) (G : List (Int × Grp)) (g mode : Int) (ps : List PodT) : Int :=
  if ((look G g).getD zgrp).ps ≠ [] then 4 else if ps = [] then 3 else if layR G mode (E.map (·.2)) [] ps = none then 6 else 0
def packL (E : List (ByteArray × Rec)) (G : List (Int × Grp)) (mode : Int) (ps : List PodT) : List Pl := ((layR G mode (E.map (·.2)) [] ps).getD []).reverse
/-- What Pack leaves. -/
def PackPost (w : World) (L : Nat) (fp : Nat → Prop) (E : List (ByteArray × Rec)) (G : List (Int × Grp)) (g mode : Int) (ps : List PodT) (A : Int) (e : Ending) (w' : World) : Prop :=
  (A ≠ 0 ∧ e = .returned (.tuple #[.slice none 0 0, .int .i64 A]) ∧ Below w.heap.size w w') ∨
  (A = 0 ∧ ∃ a c fp' E' a' c', e = .returned (.tuple #[.slice a (packL E G mode ps).length c, .int .i64 0]) ∧ Pls w' a (packL E G mode ps) ∧ SP a ∧ (∀ x, a = some x → w.heap.size ≤ x.block ∧ x.block < w'.heap.size ∧ ¬ fp' x.block) ∧
    Led w' L fp' E' (put iK G g ⟨a', c', packL E G mode ps⟩) ∧ E'.map (·.1) = E.map (·.1) ∧ E'.map (fun e => e.2.core) = E.map (fun e => e.2.core) ∧ Turn w w' fp fp')

theorem pack_take {E : List (ByteArray × Rec)} {G : List (Int × Grp)} (hI : Inv E G) {g mode : Int} {ps : List PodT} (hp : ∀ p ∈ ps, 0 ≤ p.cpu ∧ 0 ≤ p.mem) (hgn : look G g = none) (hne : ps ≠ []) (hl : layR G mode (E.map (·.2)) [] ps ≠ none) :
    takeE E G g (packL E G mode ps) = 0 ∧ (packL E G mode ps).length = ps.length ∧ ∀ q ∈ packL E G mode ps, q.node.size ≤ maxLen := by
  obtain ⟨l', hl'⟩ := Option.ne_none_iff_exists'.1 hl
  have hR : ∀ r ∈ E.map (·.2), r.cpu ≤ 1099511627776 ∧ r.mem ≤ 1099511627776 := fun r hr => by
    obtain ⟨e, he, rfl⟩ := List.mem_map.1 hr
    have := hI.cap e he
    exact ⟨this.2.1, this.2.2.2⟩
  have hRE : ∀ r ∈ E.map (·.2), ∃ r', look E r.nm = some r' ∧ r'.core = r.core := fun r hr => by
    obtain ⟨e, he, rfl⟩ := List.mem_map.1 hr
    rw [(hI.named e he).1]
    exact ⟨e.2, look_of_mem hI.apE he, rfl⟩
  obtain ⟨qs, h1, h2, h3, h4⟩ := lay_fits hI hR hp (show LaidOk G [] from trivial) hl'
  have e1 : packL E G mode ps = qs := by
    unfold packL
    rw [hl', Option.getD_some, h1]; simp
  rw [e1]
  have hq : qs ≠ [] := fun h => hne (List.eq_nil_of_length_eq_zero (by rw [← h2, h]; rfl))
  have hc := fits_check hRE h3
  have hw := fits_with hRE h3 (A := []) (fun s => by
    have e : nowR E [] s = (look E s).getD zrec := rfl
    have hu := hI.used s
    rw [e]
    refine ⟨?_, ?_, rfl, rfl⟩
    · rw [hu.1]; simp [useC, sW]
    · rw [hu.2.1]; simp [useM, sW])
  refine ⟨?_, h2, fun q hq => ?_⟩
  · unfold takeE
    rw [hgn, hc]
    simp [hq, hw]
  · obtain ⟨r, hr, hn⟩ := h4 q hq
    obtain ⟨e, he, rfl⟩ := List.mem_map.1 hr
    rw [← hn, (hI.named e he).1]
    exact (hI.named e he).2

set_option maxRecDepth 100000 in
set_option maxHeartbeats 8000000 in
theorem pack_any (w : World) (L : Nat) (fp : Nat → Prop) (E : List (ByteArray × Rec)) (G : List (Int × Grp)) (hG : G.length ≤ 100) (hled : Led w L fp E G) (hT : Tab w) (g : Int) (hg : (Lit.int .i64 g).wf = true) (hne : ∀ r, look G g = some r → r.ps ≠ [])
    (pa : Option Addr) (m pc : Nat) (ps : List PodT) (hP : Pods w pa ps) (hpl : ps.length = m) (hm8 : m ≤ 8) (mode : Int) :
    Calls Tryd.prog 10 #[.pointer (some ⟨L, 0, none⟩), .int .i64 g, .slice pa m pc, .int .i64 mode] w fun e w' => PackPost w L fp E G g mode ps (packE E G g mode ps) e w' := by
  obtain ⟨A, hA⟩ : ∃ A, packE E G g mode ps = A := ⟨_, rfl⟩
  rw [hA]
  unfold packE at hA
  obtain ⟨n0, hn0⟩ : ∃ n0, ((look G g).getD zgrp).ps.length = n0 := ⟨_, rfl⟩
  have kp := placesL w L fp E G hled g hg _ n0 rfl hn0
  by_cases h1 : ((look G g).getD zgrp).ps ≠ []
  · rw [if_pos h1] at hA
    subst hA
    have i0 : (0 : Int) < n0 := by
      cases hh : ((look G g).getD zgrp).ps with
      | nil => exact absurd hh h1
      | cons x t => rw [hh] at hn0; simp at hn0; omega
    clear h1
    go_enter Tryd.func10, Tryd.ntmps10
    go_wp2_with (go_at_call 12; refine kp.mono ?_; rintro e w1 ⟨a1, c1, rfl, _, _, _, _, hb1⟩)
    go_ret2
    exact .inl ⟨by decide, rfl, hb1⟩
  · rw [if_neg h1] at hA
    have h1 : ((look G g).getD zgrp).ps = [] := by simpa using h1
    rw [h1] at hn0
    obtain rfl : n0 = 0 := by simpa using hn0.symm
    have hgn : look G g = none := by
      cases hl : look G g with
      | none => rfl
      | some r => rw [hl] at h1; exact absurd h1 (hne r hl)
    by_cases h2 : ps = []
    · rw [if_pos h2] at hA
      subst hA h2
      obtain rfl : m = 0 := by simpa using hpl.symm
      go_enter Tryd.func10, Tryd.ntmps10
      go_wp2_with (go_at_call 12; refine kp.mono ?_; rintro e w1 ⟨a1, c1, rfl, _, _, _, _, hb1⟩)
      go_ret2
      exact .inl ⟨by decide, rfl, hb1⟩
    · rw [if_neg h2] at hA
      have hm0 : ¬ m = 0 := fun h => h2 (List.eq_nil_of_length_eq_zero (by omega))
      have hm8' : ¬ (8 : Int) < m := by omega
      have hmb : ((m : Int) == 0) = false := by simp; omega
      have hpo : ∀ p ∈ ps, 0 ≤ p.cpu ∧ 0 ≤ p.mem := fun p hp => by
        obtain ⟨i, hi⟩ := List.mem_iff_getElem?.1 hp
        obtain ⟨_, _, _, _, hok⟩ := hP i p hi
        exact hok.c
      go_enter Tryd.func10, Tryd.ntmps10
      go_upto_region 5 with (go_at_call 12; refine kp.mono ?_; rintro e w1 ⟨a1, c1, rfl, _, _, _, _, hb1⟩)
      have kn := nodesL w1 L fp E G (hled.later hb1)
      have hlay : ∀ (w2 : World) (gN cN : Nat) (R : List Rec), Below w1.heap.size w1 w2 → Nds w2 w1.heap.size (some ⟨gN, 0, none⟩) R → R.map Rec.core = E.map (fun e => e.2.core) → _ := fun w2 gN cN R hb2 hN hc =>
        lay_any L fp E G hG w2 ((hled.later hb1).later hb2) ((hT.later hb1).later hb2) gN w1.heap.size E.length cN R hN (by have := congrArg List.length hc; simpa using this) hled.1.lenE (fun r hr => by
          obtain ⟨i, hi⟩ := List.mem_iff_getElem?.1 hr
          have hi2 : (R.map Rec.core)[i]? = some r.core := by simp [hi]
          rw [hc] at hi2
          simp only [List.getElem?_map] at hi2
          cases hE : E[i]? with
          | none => rw [hE] at hi2; cases hi2
          | some e =>
            rw [hE] at hi2
            simp only [Option.map_some, Option.some.injEq] at hi2
            have he := List.mem_of_getElem? hE
            obtain ⟨q1, q2, q3, q4, q5, q6⟩ := core_parts hi2
            have n1 := hled.1.named e he
            have n2 := hled.1.cap e he
            have n3 := hled.1.marks e he
            rw [← q1, ← q2, ← q3, ← q4, ← q5, n1.1]
            exact ⟨⟨n1.2, n2.2.1, n2.2.2.2⟩, n3⟩) pa m pc ps ((hP.later hb1).later hb2) hpl hm8 mode
      have hcc : ∀ (R : List Rec), R.map Rec.core = E.map (fun e => e.2.core) → layR G mode R [] ps = layR G mode (E.map (·.2)) [] ps := fun R hc => lay_core (by rw [hc, List.map_map]; rfl) ps []
      unfold roomV at hlay
      by_cases h3 : layR G mode (E.map (·.2)) [] ps = none
      · rw [if_pos h3] at hA
        subst hA
        clear kp h1 hgn
        go_wp2_with (first
          | (go_at_call 14; refine kn.mono ?_; rintro e w2 ⟨gN, cN, R, rfl, hN2, hc2, _, hb2⟩; have kl := hlay w2 gN cN R hb2 hN2 hc2; rw [hcc R hc2, h3] at kl)
          | (go_at_call 27; refine kl.mono ?_; rintro e w3 ⟨a3, k3, c3, rfl, _, _, _, _, hb3⟩))
        go_ret2
        exact .inl ⟨by decide, rfl, (hb1.trans (hb2.mono hb1.size)).trans (hb3.mono (hb1.trans (hb2.mono hb1.size)).size)⟩
      · rw [if_neg h3] at hA
        subst hA
        obtain ⟨t1, t2, t3⟩ := pack_take hled.1 (mode := mode) hpo hgn h2 h3
        obtain ⟨l', hl'⟩ := Option.ne_none_iff_exists'.1 h3
        obtain ⟨PL, hPL⟩ : ∃ PL, packL E G mode ps = PL := ⟨_, rfl⟩
        have hpk' : l'.reverse = PL := by rw [← hPL]; unfold packL; rw [hl']; rfl
        rw [hPL] at t1 t2 t3
        obtain ⟨N, hN⟩ : ∃ N, PL.length = N := ⟨_, rfl⟩
        have hll : l'.length = N := by rw [← hN, ← hpk']; simp
        have hlay2 : ∀ (w2 : World) (gN cN : Nat) (R : List Rec), Below w1.heap.size w1 w2 → Nds w2 w1.heap.size (some ⟨gN, 0, none⟩) R → R.map Rec.core = E.map (fun e => e.2.core) →
            Calls Tryd.prog 27 #[.iface 24 (.pointer (some ⟨L, 0, none⟩)), .slice (some ⟨gN, 0, none⟩) E.length cN, .slice pa m pc, .int .i64 mode] w2 fun e w' => ∃ a c, e = .returned (.tuple #[.slice a N c, .bool true]) ∧ Pls w' a PL ∧ SP a ∧ (∀ x, a = some x → w2.heap.size ≤ x.block ∧ x.block < w'.heap.size) ∧ Below w2.heap.size w2 w' := fun w2 gN cN R h1 h2 h3 => by
          have kl := hlay w2 gN cN R h1 h2 h3
          rw [hcc R h3, hl', Option.isSome_some, Option.getD_some, hpk'] at kl
          exact kl.mono fun e w' ⟨a, k, c, e1, e2, e3⟩ => ⟨a, c, by rw [e1, e2, hll], e3⟩
        have HT : Hid (takeE E G g PL = 0 ∧ (∀ q ∈ PL, q.node.size ≤ maxLen) ∧ PL.length = N ∧ N ≤ 8) := ⟨t1, t3, hN, by omega⟩
        have HP : Hid (packL E G mode ps = PL) := hPL
        have hmi : (m : Int) ≤ 8 := by omega
        clear kp h1 h2 h3 t1 t2 t3 hN hll hpk' hl' hPL hlay hcc hpo hgn hP hpl hn0 hT hne
        go_upto_region 8 with (first
          | (go_at_call 14; refine kn.mono ?_; rintro e w2 ⟨gN, cN, R, rfl, hN2, hc2, _, hb2⟩; have kl := hlay2 w2 gN cN R hb2 hN2 hc2; clear hN2 hc2)
          | (go_at_call 27; refine kl.mono ?_; rintro e w3 ⟨a3, c3, rfl, hP3, hs3, hn3, hb3⟩))
        have hb23 := hb1.trans (hb2.mono hb1.size)
        have hbw3 := hb23.trans (hb3.mono hb23.size)
        have hled3 := hled.later hbw3
        have hna : ∀ x, a3 = some x → w.heap.size ≤ x.block ∧ x.block < w3.heap.size ∧ ¬ fp x.block := fun x hx => by
          have h := hn3 x hx
          have hz := hb23.size
          exact ⟨by omega, h.2, fun hf => by have := hled.lt _ hf; omega⟩
        have kt := takeL w3 L fp E G hled3 g hg a3 N c3 PL hP3 HT.out.2.2.1 hs3 HT.out.2.1 (fun x hx _ => (hna x hx).2.2) (by have := HT.out; omega) (by omega)
        rw [HT.out.1] at kt
        have HN : Hid (∀ x, a3 = some x → w.heap.size ≤ x.block ∧ x.block < w3.heap.size ∧ ¬ fp x.block) := hna
        clear hlay2 kn kl hna hn3
        go_wp2_with (go_at_call 23; refine kt.mono ?_; rintro e w4 ⟨rfl, fp', E', G', a', c', hL4, hG4, hk4, hc4, hT4⟩; replace hG4 : Hid _ := hG4; replace hk4 : Hid _ := hk4; replace hc4 : Hid _ := hc4)
        go_ret2
        have hna := HN.out
        have hG4 := hG4.out
        simp only [if_true] at hG4
        subst hG4
        refine .inr ⟨rfl, a3, c3, fp', E', a', c', by rw [HP.out, HT.out.2.2.1]; rfl, by rw [HP.out]; exact hP3.frame fun x hx _ => hT4.kept.block _ (hna x hx).2.1 (hna x hx).2.2, hs3, fun x hx => ⟨(hna x hx).1, Nat.lt_of_lt_of_le (hna x hx).2.1 hT4.kept.size, fun hf => ?_⟩, by rw [HP.out]; exact hL4, hk4.out, hc4.out, ⟨hT4.more, fun b hb => (hT4.new b hb).imp id (fun h => Nat.le_trans hbw3.size h), (Kept.of_below hbw3).trans hT4.kept⟩⟩
        rcases hT4.new _ hf with h | h
        · exact (hna x hx).2.2 h
        · have := (hna x hx).2.1; omega

end Go.Proofs.YtpgchnppinbpkaaDoor
