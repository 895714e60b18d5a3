/- A shard: what is held is prepared. -/
import Derived.Test.YthneemgpifbehaaGreatDoorMg38
import Derived.Test.YthneemgpifbehaaGreatDoorMg24
namespace Go.Proofs.YthneemgpifbehaaGreatDoor
open Go.RowKit Go.Maps Go.Shelf
set_option linter.unusedSimpArgs false
set_option linter.unusedVariables false

/-- The library's Clone at numbers. -/
theorem clone_nats (a : Option Addr) (n c : Nat) (ps : List Nat) (w : World) (h : Nats w a ps) (hl : ps.length = n) (hn : n ≤ 1000) (hsp : SP a) :
    Calls Tryz.prog 112 #[.slice a n c] w fun e w' => ∃ a' c', e = .returned (.slice a' n c') ∧ Nats w' a' ps ∧ (∀ x, a' = some x → w.heap.size ≤ x.block ∧ x.block < w'.heap.size) ∧ n ≤ c' ∧ Below w.heap.size w w' := by
  cases a with
  | none =>
    have : ps = [] := by
      cases ps with
      | nil => rfl
      | cons y t => obtain ⟨x, hx, _⟩ := h 0 (by simp); cases hx
    subst this
    subst hl
    refine (AnyE.slices_Clone_nil Tryz.cloneI 0 c w).mono ?_
    rintro e w' ⟨rfl, rfl⟩
    exact ⟨none, 0, rfl, h, (fun x hx => by cases hx), by simp, Below.refl _ _⟩
  | some x =>
    obtain ⟨i0, hi, hz0, hz1, hz2⟩ := info_parts tinfo3
    have hx := hsp x rfl
    obtain ⟨B, o, sp⟩ := x
    simp at hx
    subst hx
    refine (AnyE.slices_Clone Tryz.cloneI i0 _ 1 8 hi hz0 hz1 hz2 rfl (by decide) (by intro w; kernel_rfl) B o n c (ps.map fun (z : Nat) => Value.int .i64 z) w (by simp [hl]) (by unfold maxLen; omega) (by omega) ?_ ?_).mono ?_
    · intro j u hj
      rw [List.getElem?_map] at hj
      cases hp : ps[j]? with
      | none => rw [hp] at hj; cases hj
      | some z =>
        rw [hp] at hj
        simp only [Option.map_some, Option.some.injEq] at hj
        subst hj
        have hjl : j < ps.length := (List.getElem?_eq_some_iff.1 hp).1
        obtain ⟨y, hy, hc⟩ := h j hjl
        cases hy
        have e : ps.getD j 0 = z := by simp [List.getD, hp]
        rw [e] at hc
        have ea : (⟨B, o, .none⟩ : Addr).add j = ⟨B, o + j, .none⟩ := by
          unfold Addr.add
          split
          · rename_i e0; subst e0; rfl
          · rfl
        rw [ea] at hc
        exact hc
    · intro u hu
      obtain ⟨p, _, rfl⟩ := List.mem_map.1 hu
      rfl
    · rintro e w' ⟨v', rfl, hown, hne, hb⟩
      obtain ⟨hlen, hv⟩ := hown
      rcases hv with ⟨rfl, _⟩ | ⟨g, cap, cur, rfl, hg, hheap, hcap, hmax, hsz, htake⟩
      · exact absurd rfl hne
      · refine ⟨some ⟨g, 0, none⟩, cap, rfl, fun i hi' => ⟨_, rfl, ?_⟩, ?_, hcap, hb⟩
        · have hown : w'.ownsRow w.heap.size 3 1 (.slice (some ⟨g, 0, none⟩) n cap) n (ps.map fun (z : Nat) => Value.int .i64 z) := ⟨hlen, .inr ⟨g, cap, cur, rfl, hg, hheap, hcap, hmax, hsz, htake⟩⟩
          exact hown.cells (g := g) rfl i _ (by simp [List.getD, List.getElem?_eq_getElem hi'])
        · intro x hx'
          cases hx'
          exact ⟨hg, (Array.getElem?_eq_some_iff.1 hheap).1⟩

/-- A place, as lines tell it. -/
def plB (q : Pl) : PlaceB := ⟨q.pod, q.node, q.cpu.toNat, q.mem.toNat, q.al⟩
theorem pls_b {w : World} {a : Option Addr} {qs : List Pl} (h : Pls w a qs) (hq : ∀ q ∈ qs, 0 ≤ q.cpu ∧ 0 ≤ q.mem) : lPls w a (qs.map plB) := fun i p hp => by
  rw [List.getElem?_map] at hp
  cases hl : qs[i]? with
  | none => rw [hl] at hp; cases hp
  | some q =>
    rw [hl] at hp
    simp only [Option.map_some, Option.some.injEq] at hp
    subst hp
    obtain ⟨B, o, ha, h0, h1, h2, h3, h4⟩ := h.2 i q hl
    have hm := hq q (List.mem_of_getElem? hl)
    refine ⟨B, o, ha, h0, h1, ?_, ?_, h4⟩
    · rw [h2]; simp only [plB]; congr 2; omega
    · rw [h3]; simp only [plB]; congr 2; omega

/-- Take, where a gang has places: nothing. -/
theorem take_has {w : World} {S T Lg u d : Nat} {v : Value} {col : Nat → Nat} {x : ShS} (h : ShP w S T Lg u d v col x) (g : Int) (hg : (Lit.int .i64 g).wf = true) (hgs : look x.G g ≠ none) (a : Option Addr) (n c : Nat) (ps : List Pl) (hP : Pls w a ps) (hl : ps.length = n) (hsp : SP a)
    (hz : ∀ p ∈ ps, p.node.size ≤ maxLen) (hfa : ∀ y, a = some y → ps ≠ [] → ¬ inC col y.block) (h8 : ps.length ≤ 8) (hG : x.G.length ≤ 1000) :
    Calls Tryz.prog 111 #[.pointer (some ⟨Lg, 0, none⟩), .int .i64 g, .slice a n c] w fun e w' => e = .returned (.int .i64 4) ∧ ∃ col', ShP w' S T Lg u d v col' x ∧ Turn w w' (inC col) (inC col') := by
  obtain ⟨E, hE, hC⟩ := h.led
  have e4 : takeE E x.G g ps = 4 := by
    unfold takeE
    cases hl : look x.G g with
    | none => exact absurd hl hgs
    | some r => rfl
  refine (takeL w Lg _ E x.G hE g hg a n c ps hP hl hsp hz (fun y hy hn hc => hfa y hy hn (by unfold inC; rw [hc]; decide)) h8 hG).mono ?_
  rw [e4]
  rintro e w' ⟨he, fp', E', G', a', c', hL, hG', _, hco, hT⟩
  rw [if_neg (by decide)] at hG'
  subst hG'
  obtain ⟨col', h5, h6⟩ := h.ledger ⟨E', hL, hco.trans hC⟩ hT
  exact ⟨he, col', h5, h6⟩

section
variable {w : World} {S T : Nat} {fp : Nat → Prop} {x : ShS}

set_option maxRecDepth 100000 in
set_option maxHeartbeats 8000000 in
theorem qfollow_three (h : IsS w S T fp x) (g : Nat) (hg : g ≤ 999999) (hgs : look x.G g ≠ none) (hU : x.U.length ≤ 100000) (hG : x.G.length ≤ 1000)
    (ea : Option Addr) (en ec : Nat) (ps : List Nat) (hN : Nats w ea ps) (en' : ps.length = en) (hn4 : en ≤ 4) (hsp : SP ea) (hfe : ∀ y, ea = some y → ps ≠ [] → y.block < w.heap.size ∧ ¬ fp y.block)
    (qa : Option Addr) (qn qc : Nat) (qs : List Pl) (hP : Pls w qa qs) (hql : qs.length = qn) (hq8 : qn ≤ 8) (hqsp : SP qa) (hqz : ∀ p ∈ qs, p.node.size ≤ maxLen) (hfq : ∀ y, qa = some y → qs ≠ [] → ¬ fp y.block) :
    Calls Tryz.prog 55 #[.pointer (some ⟨S, 0, none⟩), .agg #[.int .i64 3, .int .i64 g, .slice ea en ec, .slice qa qn qc, .string ⟨#[]⟩, .int .i64 0, .int .i64 0, .slice none 0 0, .slice none 0 0, .bool false]] w fun e w' => e = .returned (.tuple #[]) ∧ ∃ fp' a' c', IsS w' S T fp' (setU x g (.prep 0 a' c' ps)) ∧ Turn w w' fp fp' := by
  have hb0 := up (Below.refl w.heap.size w) (.cells #[.int .i64 3, .int .i64 g, .slice ea en ec, .slice qa qn qc, .string ⟨#[]⟩, .int .i64 0, .int .i64 0, .slice none 0 0, .slice none 0 0, .bool false] 57)
  have bR := Box.new w #[.int .i64 3, .int .i64 g, .slice ea en ec, .slice qa qn qc, .string ⟨#[]⟩, .int .i64 0, .int .i64 0, .slice none 0 0, .slice none 0 0, .bool false] 57 rfl
  obtain ⟨Lg, u, d, v, col, rfl, h⟩ := h
  have hn : ¬ inC col w.heap.size := fun hc => by have := h.lt _ hc; omega
  have h1 := h.later hb0.drew
  have c3 := h1.c3
  have c3' := (h.later hb0).c3
  have kt := take_has h1 g (wfN g hg) hgs qa qn qc qs (hP.later hb0.drew) hql hqsp hqz hfq (by omega) hG
  have hT0 : Turn w _ (inC col) (inC col) := .of_below hb0.drew
  have kn : ∀ (W : World) (col2 : Nat → Nat), Turn (w.alloc (.cells #[.int .i64 3, .int .i64 g, .slice ea en ec, .slice qa qn qc, .string ⟨#[]⟩, .int .i64 0, .int .i64 0, .slice none 0 0, .slice none 0 0, .bool false] 57)).drew W (inC col) (inC col2) →
      Calls Tryz.prog 112 #[.slice ea en ec] W.drew fun e w' => ∃ a' c', e = .returned (.slice a' en c') ∧ Nats w' a' ps ∧ (∀ x, a' = some x → W.heap.size ≤ x.block ∧ x.block < w'.heap.size) ∧ en ≤ c' ∧ Below W.heap.size W w' := fun W col2 hW => by
    have hN1 : Nats W.drew ea ps := ((hN.later hb0.drew).frame fun y hy hne => hW.kept.block _ (Nat.lt_of_lt_of_le (hfe y hy hne).1 hb0.drew.size) (hfe y hy hne).2).frame fun _ _ _ => rfl
    exact (clone_nats ea en ec ps W.drew hN1 en' (by omega) hsp).mono fun e w' h => by
      obtain ⟨a', c', h1, h2, h3, h4, h5⟩ := h
      exact ⟨a', c', h1, h2, h3, h4, (Below.refl _ _).drew.trans h5⟩
  clear h h1 hP hN hfe hfq hgs
  go_enter Tryz.func55, Tryz.ntmps55
  go_upto_region 7 with fail
  go_cut [] (fun wx => ∃ col2, ShP wx S T Lg u d v col2 x ∧ Turn (w.alloc (.cells #[.int .i64 3, .int .i64 g, .slice ea en ec, .slice qa qn qc, .string ⟨#[]⟩, .int .i64 0, .int .i64 0, .slice none 0 0, .slice none 0 0, .bool false] 57)).drew wx (inC col) (inC col2))
  case first =>
    go_region_with (go_at_call 111; refine kt.mono ?_; rintro e w2 ⟨rfl, col2, h2, hT2⟩)
    all_goals
      go_wp2
      go_meet
      case rel => exact ⟨col2, h2, hT2⟩
  case rest =>
    obtain ⟨col2, h2, hT2⟩ := hcut
    have b2 := hT2.kept.box (Box.drew bR) hn
    have c4 := h2.c4
    have r1 : wc.cell? ⟨w.heap.size, 1, none⟩ = some (.int .i64 g) := b2.cell rfl
    have r2 : wc.cell? ⟨w.heap.size, 2, none⟩ = some (.slice ea en ec) := b2.cell rfl
    have kn2 := kn _ _ hT2
    clear kn kt c3 c3'
    go_upto_region 8 with fail
    go_region_with (go_at_call 112; refine kn2.mono ?_
                    rintro e w4 ⟨a4, c4', rfl, hN4, hnew, hcc, hb4⟩
                    have h4 := h2.later hb4
                    have c44 := h4.c4
                    have b4 := b2.later hb4
                    have r41 : w4.cell? ⟨w.heap.size, 1, none⟩ = some (.int .i64 g) := b4.cell rfl
                    obtain ⟨col5, hcol5, h5⟩ : ∃ col5 : Nat → Nat, (∀ y, a4 = some y → col5 y.block = 6) ∧ ShP w4 S T Lg u d v col5 x ∧ Turn wc w4 (inC col2) (inC col5) := by
                      cases a4 with
                      | none => exact ⟨col2, (fun y hy => by cases hy), h4, .of_below hb4⟩
                      | some y =>
                        have hy := hnew y rfl
                        have h0 : col2 y.block = 0 := Classical.byContradiction fun hc => by have := h2.lt _ hc; omega
                        refine ⟨_, (fun y' hy' => by cases hy'; exact if_pos rfl), h4.row y.block h0 hy.2, fun b hb => ?_, fun b hb => ?_, .of_below hb4⟩
                        · simp only [inC] at hb ⊢
                          rw [if_neg fun e => hb (by rw [e]; exact h0)]
                          exact hb
                        · simp only [inC] at hb ⊢
                          by_cases e : b = y.block
                          · exact .inr (by rw [e]; exact hy.1)
                          · rw [if_neg e] at hb; exact .inl hb
                    obtain ⟨h5, hT5⟩ := h5
                    obtain ⟨w6, hrun, h6, hT6⟩ := updU h5 g (wfN g hg) hU (.prep 0 a4 c4' ps) ⟨hN4, by omega, by omega, fun y hy _ => hcol5 y hy⟩
                    simp only [Und.val, en'] at hrun)
    all_goals
      go_wp2
      go_end0
      exact ⟨rfl, _, a4, c4', ⟨Lg, u, d, v, col5, rfl, h6⟩, ((hT0.trans hT2).trans hT5).trans hT6⟩
end

end Go.Proofs.YthneemgpifbehaaGreatDoor
