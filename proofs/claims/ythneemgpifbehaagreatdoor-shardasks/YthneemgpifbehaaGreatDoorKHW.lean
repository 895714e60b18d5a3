/- A shard: Tick, where one gang is prepared. -/
import Derived.Test.YthneemgpifbehaaGreatDoorMg40
import Derived.Test.YthneemgpifbehaaGreatDoorKHV
import Derived.Laws.AppendOwnNone
namespace Go.Proofs.YthneemgpifbehaaGreatDoor
open Go.RowKit Go.Maps
set_option linter.unusedSimpArgs false
set_option linter.unusedVariables false

section
variable {w : World} {S T : Nat} {fp : Nat → Prop} {x : ShS}

set_option maxRecDepth 100000 in
set_option maxHeartbeats 8000000 in
/-- One gang is prepared, and asks nobody yet. -/
theorem qtick_prep_few (h : IsS w S T fp x) (g age : Int) (hg : (Lit.int .i64 g).wf = true) (h0 : 0 ≤ age) (h3 : age < 3) (a : Option Addr) (c : Nat) (ps : List Nat) (hU : x.U = [(g, .prep age a c ps)]) :
    Calls Tryz.prog 27 #[.pointer (some ⟨S, 0, none⟩)] w fun e w' => e = .returned (.slice none 0 0) ∧ ∃ fp', IsS w' S T fp' (setU x g (.prep (age + 1) a c ps)) ∧ Turn w w' fp fp' := by
  have hlt := h.lt
  obtain ⟨Lg, u, d, v, col, rfl, h⟩ := h
  have hW := fun W (hb : Below w.heap.size w W) => h.later hb
  have c4 := h.c4
  have cW := fun W (hb : Below w.heap.size w W) => (hW W hb).c4
  have lW := fun W (hb : Below w.heap.size w W) => (hW W hb).und.look1 .nilIface Tryz.underlying88 (zero_any W) g hg
  simp only [hU, look, List.find?_cons, decide_true, Option.map_some, Option.getD_some, Und.val] at lW
  have hu := h.und
  rw [hU] at hu
  have ks := sortedI_some u [(g, .prep age a c ps)] w hu (by simp)
  simp only [List.length_cons, List.length_nil, Nat.zero_add] at ks
  obtain ⟨n, hn⟩ : ∃ n, ps.length = n := ⟨_, rfl⟩
  have t1 := fun W => ta_held_no (.agg #[.int .i64 age, .slice a n c]) W
  have t2 := fun W => ta_prep (.agg #[.int .i64 age, .slice a n c]) W
  have hok := h.ok (g, .prep age a c ps) (by rw [hU]; simp)
  obtain ⟨k1, k2, k3, k4⟩ := hok
  obtain ⟨i0, hi, hz0, hz1, hz2⟩ := info_parts infoMsg
  have up1 : ∀ W, Below w.heap.size w W → ∃ w', (Instr.mapUpdate 88 (.map (some u)) (.int .i64 g) (.iface 115 (.agg #[.int .i64 (age + 1), .slice a n c]))).run Tryz.prog W = .ok () w' ∧ ShP w' S T Lg u d v col (setU x g (.prep (age + 1) a c ps)) ∧ Turn W w' (inC col) (inC col) ∧ Nats w' a ps := fun W hb => by
    obtain ⟨w', e1, e2, e3⟩ := updU (hW W hb) g hg (by rw [hU]; simp) (.prep (age + 1) a c ps) (by
      have := (hW W hb).ok (g, .prep age a c ps) (by rw [hU]; simp)
      exact ⟨this.1, this.2.1, this.2.2.1, this.2.2.2⟩)
    simp only [Und.val, hn] at e1
    have e4 := e2.ok (g, .prep (age + 1) a c ps) (by simp only [setU]; exact (mem_put iK).2 (.inl rfl))
    exact ⟨w', e1, e2, e3, e4.1⟩
  rw [hn] at lW
  obtain ⟨X, hX⟩ : ∃ X, setU x g (.prep (age + 1) a c ps) = X := ⟨_, rfl⟩
  rw [hX] at up1 ⊢
  clear h hu hU hW hX
  go_enter Tryz.func27, Tryz.ntmps27
  go_wp2_with (first
    | (go_at_call 64; refine (keysI_any _ _).mono ?_; rintro e w1 ⟨rfl, rfl⟩)
    | (go_at_call 63; refine ks.mono ?_; rintro e w2 ⟨ka, kc, rfl, hz, hn2', hb2⟩))
  obtain ⟨y, rfl, hc⟩ := hz 0 (by simp)
  simp only [List.map_cons, List.map_nil, List.getD_cons_zero] at hc
  have hy0 : y.add 0 = y := by
    obtain ⟨b, o, p⟩ := y
    cases p <;> rfl
  rw [hy0] at hc
  have c42 := cW _ hb2
  have l42 := lW _ hb2
  have hT0 : Turn w w2 (inC col) (inC col) := .of_below hb2
  clear lW ks
  go_loopw [3, 15] (fun l i wr => l = .slice none 0 0 ∧ ((i = .int .i64 0 ∧ wr = w2) ∨ (i = .int .i64 1 ∧ ∃ fp', IsS wr S T fp' X ∧ Turn w wr (inC col) fp'))) (fun _ i _ => 1 - (intOf i).toNat)
  case atStart => exact ⟨rfl, .inl ⟨rfl, rfl⟩⟩
  case round =>
    obtain ⟨rfl, ⟨rfl, rfl⟩ | ⟨rfl, fp3, hx3, hT3⟩⟩ := hrel
    · go_upto_region 12 with fail
      have hbA := up hb2 (.cells #[.int .i64 (age + 1), .slice a n c] 115)
      have bQ := Box.new wr #[.int .i64 (age + 1), .slice a n c] 115 rfl
      have hnQ : ¬ inC col wr.heap.size := fun hc => by have := hlt _ hc; have := hb2.size; omega
      have c4A := cW _ hbA
      obtain ⟨q0, q1⟩ := bQ.cells2
      obtain ⟨w4, hrun, h4, hT4, hN4⟩ := up1 _ hbA.drew
      have b4 := hT4.kept.box (Box.drew bQ) hnQ
      obtain ⟨r0, r1⟩ := b4.cells2
      have kq := qasks_few (w := w4) (S := S) g (age + 1) a n c (by omega)
      have hT1 : Turn w _ (inC col) (inC col) := .of_below hbA.drew
      have hI4 : IsS w4 S T (inC col) X := ⟨Lg, u, d, v, col, rfl, h4⟩
      clear up1 cW h4
      go_region_with (fail)
      all_goals
        go_wp2_with (first
          | (go_at_call 66; refine kq.mono ?_; rintro e w5 ⟨rfl, hb5⟩)
          | (at_builtin; refine wpList_append_own_none rfl _ _ 36 rfl 0 40 i0 7 Tryz.underlying36 hi (.slice none 0 0) 0 [] rfl (World.ownsRow_nil _ _ _ _) rfl ?_)
          | go_in)
        go_roundw
        case rel => exact ⟨rfl, .inr ⟨rfl, _, hI4.later hb5, (hT1.trans hT4).trans (.of_below hb5)⟩⟩
        case measure => simp [intOf]
    · go_wp2
      go_ret
      exact ⟨rfl, fp3, hx3, hT3⟩
set_option maxRecDepth 100000 in
set_option maxHeartbeats 8000000 in
/-- One gang is prepared, and asks. -/
theorem qtick_prep_asks (h : IsS w S T fp x) (me : Int) (hme : x.me = me) (g age : Int) (hg : (Lit.int .i64 g).wf = true) (h0 : age ≤ 100000) (h3 : 3 ≤ age) (a : Option Addr) (c : Nat) (ps : List Nat) (hU : x.U = [(g, .prep age a c ps)]) :
    Calls Tryz.prog 27 #[.pointer (some ⟨S, 0, none⟩)] w fun e w' => ∃ l, e = .returned l ∧ w'.ownsRow w.heap.size 40 7 l ((askTo me ps).length + 1) (asksC me g ps) ∧ ∃ fp', IsS w' S T fp' (setU x g (.prep (age + 1) a c ps)) ∧ Turn w w' fp fp' := by
  have hlt := h.lt
  have hxm : (setU x g (.prep (age + 1) a c ps)).me = me := hme
  obtain ⟨Lg, u, d, v, col, rfl, h⟩ := h
  have hW := fun W (hb : Below w.heap.size w W) => h.later hb
  have c4 := h.c4
  have cW := fun W (hb : Below w.heap.size w W) => (hW W hb).c4
  have lW := fun W (hb : Below w.heap.size w W) => (hW W hb).und.look1 .nilIface Tryz.underlying88 (zero_any W) g hg
  simp only [hU, look, List.find?_cons, decide_true, Option.map_some, Option.getD_some, Und.val] at lW
  have hu := h.und
  rw [hU] at hu
  have ks := sortedI_some u [(g, .prep age a c ps)] w hu (by simp)
  simp only [List.length_cons, List.length_nil, Nat.zero_add] at ks
  obtain ⟨n, hn⟩ : ∃ n, ps.length = n := ⟨_, rfl⟩
  have t1 := fun W => ta_held_no (.agg #[.int .i64 age, .slice a n c]) W
  have t2 := fun W => ta_prep (.agg #[.int .i64 age, .slice a n c]) W
  have hok := h.ok (g, .prep age a c ps) (by rw [hU]; simp)
  obtain ⟨k1, k2, k3, k4⟩ := hok
  obtain ⟨i0, hi, hz0, hz1, hz2⟩ := info_parts infoMsg
  have up1 : ∀ W, Below w.heap.size w W → ∃ w', (Instr.mapUpdate 88 (.map (some u)) (.int .i64 g) (.iface 115 (.agg #[.int .i64 (age + 1), .slice a n c]))).run Tryz.prog W = .ok () w' ∧ ShP w' S T Lg u d v col (setU x g (.prep (age + 1) a c ps)) ∧ Turn W w' (inC col) (inC col) ∧ Nats w' a ps := fun W hb => by
    obtain ⟨w', e1, e2, e3⟩ := updU (hW W hb) g hg (by rw [hU]; simp) (.prep (age + 1) a c ps) (by
      have := (hW W hb).ok (g, .prep age a c ps) (by rw [hU]; simp)
      exact ⟨this.1, this.2.1, this.2.2.1, this.2.2.2⟩)
    simp only [Und.val, hn] at e1
    have e4 := e2.ok (g, .prep (age + 1) a c ps) (by simp only [setU]; exact (mem_put iK).2 (.inl rfl))
    exact ⟨w', e1, e2, e3, e4.1⟩
  rw [hn] at lW
  obtain ⟨X, hX⟩ : ∃ X, setU x g (.prep (age + 1) a c ps) = X := ⟨_, rfl⟩
  rw [hX] at up1 hxm ⊢
  clear h hu hU hW hX
  go_enter Tryz.func27, Tryz.ntmps27
  go_wp2_with (first
    | (go_at_call 64; refine (keysI_any _ _).mono ?_; rintro e w1 ⟨rfl, rfl⟩)
    | (go_at_call 63; refine ks.mono ?_; rintro e w2 ⟨ka, kc, rfl, hz, hn2', hb2⟩))
  obtain ⟨y, rfl, hc⟩ := hz 0 (by simp)
  simp only [List.map_cons, List.map_nil, List.getD_cons_zero] at hc
  have hy0 : y.add 0 = y := by
    obtain ⟨b, o, p⟩ := y
    cases p <;> rfl
  rw [hy0] at hc
  have c42 := cW _ hb2
  have l42 := lW _ hb2
  have hT0 : Turn w w2 (inC col) (inC col) := .of_below hb2
  clear lW ks
  go_loopw [3, 15] (fun l i wr => (l = .slice none 0 0 ∧ i = .int .i64 0 ∧ wr = w2) ∨ (i = .int .i64 1 ∧ wr.ownsRow w.heap.size 40 7 l ((askTo me ps).length + 1) (asksC me g ps) ∧ ∃ fp', IsS wr S T fp' X ∧ Turn w wr (inC col) fp')) (fun _ i _ => 1 - (intOf i).toNat)
  case atStart => exact .inl ⟨rfl, rfl, rfl⟩
  case round =>
    obtain ⟨rfl, rfl, rfl⟩ | ⟨rfl, ho3, fp3, hx3, hT3⟩ := hrel
    · go_upto_region 12 with fail
      have hbA := up hb2 (.cells #[.int .i64 (age + 1), .slice a n c] 115)
      have bQ := Box.new wr #[.int .i64 (age + 1), .slice a n c] 115 rfl
      have hnQ : ¬ inC col wr.heap.size := fun hc => by have := hlt _ hc; have := hb2.size; omega
      have c4A := cW _ hbA
      obtain ⟨q0, q1⟩ := bQ.cells2
      obtain ⟨w4, hrun, h4, hT4, hN4⟩ := up1 _ hbA.drew
      have b4 := hT4.kept.box (Box.drew bQ) hnQ
      obtain ⟨r0, r1⟩ := b4.cells2
      have hI4' : IsS w4 S T (inC col) X := ⟨Lg, u, d, v, col, rfl, h4⟩
      have kq := qasks_any hI4' me hxm g (age + 1) a n c ps hN4 hn (by omega) (by omega)
      have hal := asks_len me g ps
      obtain ⟨m, hm⟩ : ∃ m, (askTo me ps).length + 1 = m := ⟨_, rfl⟩
      obtain ⟨L, hL⟩ : ∃ L, asksC me g ps = L := ⟨_, rfl⟩
      have hm5 : 1 ≤ m ∧ m ≤ 5 := by
        have : (askTo me ps).length ≤ ps.length := List.length_filter_le _ _
        omega
      have h1L : ∀ q ∈ L, q.oneCell' = true := fun q hq => by
        rw [← hL] at hq
        unfold asksC at hq
        rcases List.mem_append.1 hq with hq | hq
        · exact ask_one _ _ _ _ hq
        · obtain ⟨p, _, hq⟩ := List.mem_flatMap.1 hq
          exact ask_one _ _ _ _ hq
      rw [hm, hL] at kq hal
      have HM : Hid ((askTo me ps).length + 1 = m ∧ asksC me g ps = L) := ⟨hm, hL⟩
      clear hm hL
      have hT1 : Turn w _ (inC col) (inC col) := .of_below hbA.drew
      have hI4 : IsS w4 S T (inC col) X := ⟨Lg, u, d, v, col, rfl, h4⟩
      clear up1 cW h4
      go_region_with (fail)
      all_goals
        go_wp2_with (first
          | (go_at_call 66; refine kq.mono ?_
             rintro e w5 ⟨lv, rfl, ho5, hb5⟩
             obtain ⟨gb, cap, hlv, hcl⟩ : ∃ gb cap, lv = .slice (some ⟨gb, 0, none⟩) m cap ∧ ∀ j q, L[j]? = some q → w5.cell? ((⟨gb, 0, none⟩ : Addr).add j) = some q := by
               rcases ho5.2 with ⟨_, e0⟩ | ⟨gb, cap, cur, e, _⟩
               · omega
               · exact ⟨gb, cap, e, fun j q hq => ho5.cells (g := gb) (by rw [e]; rfl) j q hq⟩
             subst hlv)
          | (at_builtin; refine wpList_append_own _ rfl _ _ 36 rfl w5.heap.size 40 i0 _ 7 88 Tryz.underlying36 hi hz0 hz1 hz2 rfl (by decide) (.slice none 0 0) 0 [] rfl (World.ownsRow_nil _ _ _ _) ⟨gb, 0, none⟩ m cap L rfl hal hcl h1L (by unfold maxLen; omega) (by omega) (Nat.le_refl _) ?_; intro v6 w6 hown6 hgrow6 _)
          | go_in)
        go_roundw
        case rel =>
          have hm := HM.out
          have hb6 : Below w5.heap.size w5 w6 := ⟨hgrow6.os, hgrow6.tape, hgrow6.output, hgrow6.size, fun k hk => hgrow6.block k hk (by simp [Value.ownBlock])⟩
          have hb56 := hb5.trans (hb6.mono hb5.size)
          rw [Nat.zero_add, List.nil_append] at hown6
          rw [hm.1, hm.2]
          exact .inr ⟨rfl, own_low hown6 (Nat.le_trans (Nat.le_trans hbA.size (Nat.le_trans (Nat.le_of_eq rfl) hT4.kept.size)) hb5.size), _, hI4.later hb56, (hT1.trans hT4).trans (.of_below hb56)⟩
        case measure => simp [intOf]
    · go_wp2
      go_ret
      exact ⟨_, rfl, ho3, fp3, hx3, hT3⟩
end

end Go.Proofs.YthneemgpifbehaaGreatDoor
