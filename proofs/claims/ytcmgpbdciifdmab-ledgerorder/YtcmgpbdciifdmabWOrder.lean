/- The walk of LedgerOrder. -/
import Derived.Test.YtcmgpbdciifdmabWFull
namespace Go.Proofs.Ytcmgpbdciifdmab
open Go.RowKit Go.Maps

/-- What gang g needs. -/
def dOf (z0 : List Int) (g : Nat) : Int := (z0.getD (g - 1) 0) % 9
/-- What those need that are there. -/
def tot (z0 : List Int) (bs : List Bool) : Nat → Int
  | 0 => 0
  | n + 1 => tot z0 bs n + if bs.getD n false then dOf z0 n else 0
theorem dOf_bounds (z0 : List Int) (g : Nat) : 0 ≤ dOf z0 g ∧ dOf z0 g < 9 := by unfold dOf; omega
theorem tot_bounds (z0 : List Int) (bs : List Bool) : ∀ n, 0 ≤ tot z0 bs n ∧ tot z0 bs n ≤ 8 * n
  | 0 => by simp [tot]
  | n + 1 => by
    have h1 := tot_bounds z0 bs n
    have h2 := dOf_bounds z0 n
    unfold tot
    split <;> omega
theorem set_getD (bs : List Bool) (g : Nat) (v : Bool) (h : g < bs.length) (i : Nat) : (bs.set g v).getD i false = if i = g then v else bs.getD i false := by
  simp only [List.getD, List.getElem?_set]
  by_cases e : g = i
  · subst e; simp [h]
  · simp [e, Ne.symm e]
theorem tot_far (z0 : List Int) (bs : List Bool) (g : Nat) (v : Bool) (h : g < bs.length) : ∀ n, n ≤ g → tot z0 (bs.set g v) n = tot z0 bs n
  | 0, _ => rfl
  | n + 1, hn => by
    have e1 : (bs.set g v).getD n false = bs.getD n false := by rw [set_getD bs g v h, if_neg (by omega)]
    unfold tot
    rw [tot_far z0 bs g v h n (by omega), e1]
theorem tot_set (z0 : List Int) (bs : List Bool) (g : Nat) (v : Bool) (h : g < bs.length) : ∀ n, g < n → tot z0 (bs.set g v) n = tot z0 bs n - (if bs.getD g false then dOf z0 g else 0) + (if v then dOf z0 g else 0)
  | n + 1, hn => by
    unfold tot
    by_cases e : g = n
    · subst e
      have e1 : (bs.set g v).getD g false = v := by rw [set_getD bs g v h, if_pos rfl]
      rw [tot_far z0 bs g v h g (Nat.le_refl _), e1]
      omega
    · have e1 : (bs.set g v).getD n false = bs.getD n false := by rw [set_getD bs g v h, if_neg (fun e' => e e'.symm)]
      rw [tot_set z0 bs g v h n (by omega), e1]
      omega
theorem tot_ge (z0 : List Int) (bs : List Bool) (g : Nat) (hg : bs.getD g false = true) : ∀ n, g < n → dOf z0 g ≤ tot z0 bs n
  | n + 1, hn => by
    unfold tot
    have h1 := tot_bounds z0 bs n
    have h2 := dOf_bounds z0 n
    by_cases e : g = n
    · subst e; rw [hg, if_pos rfl]; omega
    · have := tot_ge z0 bs g hg n (by omega)
      split <;> omega

theorem One.set' {w : World} {L : Nat} {fp : Nat → Prop} {r : Rec} {G : List (Int × Grp)} (h : One w L fp r G) {b : Nat} (hb : ¬ fp b) (i : Nat) (v : Value) : One (w.setCell ⟨b, i, none⟩ v) L fp r G := ⟨h.1, h.2.1, h.2.2.elim fun p h => h.elim fun q h => ⟨p, q, h.set hb i v⟩⟩
/-- Between two rounds: who has room. -/
structure OS (w : World) (L Bt K : Nat) (z0 : List Int) (fp : Nat → Prop) (r : Rec) (G : List (Int × Grp)) (bs : List Bool) (S : Int) (wr : World) : Prop where
  one : One wr L fp r G
  cpu : r.cpu = 1000
  mem : r.mem = 1000
  u : r.u = S
  m : r.m = 0
  row : Box wr Bt (bs.map Value.bool).toArray 4
  out : ¬ fp Bt
  len : bs.length = K + 1
  yes : ∀ g : Nat, bs.getD g false = true → ∃ a c, look G (g : Int) = some ⟨a, c, [⟨⟨#[112]⟩, nB, dOf z0 g, 0, false⟩]⟩
  no : ∀ g : Nat, bs.getD g false = false → look G (g : Int) = none
  sum : S = tot z0 bs (K + 1)
  gl : G.length ≤ K
  fw : ∀ b, fp b → w.heap.size ≤ b
  low : w.heap.size ≤ Bt
  bel : Below w.heap.size w wr
theorem OS.later {w : World} {L Bt K : Nat} {z0 : List Int} {fp : Nat → Prop} {r : Rec} {G : List (Int × Grp)} {bs : List Bool} {S : Int} {wr wr' : World} (h : OS w L Bt K z0 fp r G bs S wr) (hb : Below wr.heap.size wr wr') : OS w L Bt K z0 fp r G bs S wr' :=
  ⟨h.one.later hb, h.cpu, h.mem, h.u, h.m, h.row.later hb, h.out, h.len, h.yes, h.no, h.sum, h.gl, h.fw, h.low, h.bel.trans (hb.mono h.bel.size)⟩
theorem OS.at {w : World} {L Bt K : Nat} {z0 : List Int} {fp : Nat → Prop} {r : Rec} {G : List (Int × Grp)} {bs : List Bool} {S : Int} {wr : World} (h : OS w L Bt K z0 fp r G bs S wr) (g : Nat) (hg : g ≤ K) : wr.cell? ⟨Bt, g, none⟩ = some (.bool (bs.getD g false)) :=
  h.row.cell (by have := h.len; simp [List.getD, List.getElem?_eq_getElem (show g < bs.length by omega)])
/-- One more has room. -/
theorem OS.took {w : World} {L Bt K : Nat} {z0 : List Int} {fp fp' : Nat → Prop} {r : Rec} {G : List (Int × Grp)} {bs : List Bool} {S : Int} {wr wr' : World} (h : OS w L Bt K z0 fp r G bs S wr) (g : Nat) (hg : g ≤ K) (hf : bs.getD g false = false) (a : Option Addr) (c : Nat) (hGl : G.length < K)
    (hO : One wr' L fp' (r.plus ⟨⟨#[112]⟩, nB, dOf z0 g, 0, false⟩) (put iK G (g : Int) ⟨a, c, [⟨⟨#[112]⟩, nB, dOf z0 g, 0, false⟩]⟩)) (hfp : ∀ b, fp' b → fp b ∨ wr.heap.size ≤ b) (hK : Kept fp wr wr') :
    OS w L Bt K z0 fp' (r.plus ⟨⟨#[112]⟩, nB, dOf z0 g, 0, false⟩) (put iK G (g : Int) ⟨a, c, [⟨⟨#[112]⟩, nB, dOf z0 g, 0, false⟩]⟩) (bs.set g true) (S + dOf z0 g) (wr'.setCell ⟨Bt, g, none⟩ (.bool true)) := by
  have hl := h.len
  have ho : ¬ fp' Bt := fun hh => (hfp _ hh).elim h.out (fun hh => by have := h.row.lt; omega)
  have hg' : g < bs.length := by omega
  have hap := h.one.apartG
  refine ⟨hO.set' ho g _, h.cpu, h.mem, by show r.u + dOf z0 g = _; rw [h.u], by show r.m + 0 = 0; rw [h.m]; rfl, ?_, ho, by simpa using hl, ?_, ?_, ?_, ?_, ?_, h.low, ?_⟩
  · have := (hK.box h.row h.out).set g (.bool true)
    simpa [List.map_set] using this
  · intro g' hg'
    rw [set_getD bs g true (by omega)] at hg'
    rw [look_put]
    by_cases e : g' = g
    · subst e; exact ⟨a, c, by rw [if_pos rfl]⟩
    · rw [if_neg e] at hg'
      rw [if_neg (by omega)]
      exact h.yes g' hg'
  · intro g' hg'
    rw [set_getD bs g true (by omega)] at hg'
    rw [look_put]
    by_cases e : g' = g
    · subst e; rw [if_pos rfl] at hg'; cases hg'
    · rw [if_neg e] at hg'
      rw [if_neg (by omega)]
      exact h.no g' hg'
  · rw [tot_set z0 bs g true (by omega) (K + 1) (by omega), hf, h.sum]
    simp
  · rw [length_put iK hap]; split <;> omega
  · intro b hb
    exact (hfp b hb).elim (h.fw b) (fun hh => Nat.le_trans h.bel.size hh)
  · exact (h.bel.trans (hK.below h.bel.size h.fw)).setCell (p := ⟨Bt, g, none⟩) h.low _
/-- One gives its room. -/
theorem OS.gave {w : World} {L Bt K : Nat} {z0 : List Int} {fp : Nat → Prop} {r : Rec} {G : List (Int × Grp)} {bs : List Bool} {S : Int} {wr wr' : World} (h : OS w L Bt K z0 fp r G bs S wr) (g : Nat) (hg : g ≤ K) (hf : bs.getD g false = true)
    (hO : One wr' L fp (r.minus ⟨⟨#[112]⟩, nB, dOf z0 g, 0, false⟩) (del G (g : Int))) (hK : Kept fp wr wr') :
    OS w L Bt K z0 fp (r.minus ⟨⟨#[112]⟩, nB, dOf z0 g, 0, false⟩) (del G (g : Int)) (bs.set g false) (S - dOf z0 g) (wr'.setCell ⟨Bt, g, none⟩ (.bool false)) := by
  have hl := h.len
  have hap := h.one.apartG
  refine ⟨hO.set' h.out g _, h.cpu, h.mem, by show r.u - dOf z0 g = _; rw [h.u], by show r.m - 0 = 0; rw [h.m]; rfl, ?_, h.out, by simpa using hl, ?_, ?_, ?_, ?_, h.fw, h.low, ?_⟩
  · have := (hK.box h.row h.out).set g (.bool false)
    simpa [List.map_set] using this
  · intro g' hg'
    rw [set_getD bs g false (by omega)] at hg'
    rw [look_del]
    by_cases e : g' = g
    · subst e; rw [if_pos rfl] at hg'; cases hg'
    · rw [if_neg e] at hg'
      rw [if_neg (by omega)]
      exact h.yes g' hg'
  · intro g' hg'
    rw [set_getD bs g false (by omega)] at hg'
    rw [look_del]
    by_cases e : g' = g
    · subst e; rw [if_pos rfl]
    · rw [if_neg e] at hg'
      rw [if_neg (by omega)]
      exact h.no g' hg'
  · rw [tot_set z0 bs g false (by omega) (K + 1) (by omega), hf, h.sum]
    simp
  · have := length_del hap (g : Int)
    have := h.gl
    omega
  · exact (h.bel.trans (hK.below h.bel.size h.fw)).setCell (p := ⟨Bt, g, none⟩) h.low _

theorem info4 : (Try.prog.info? 4).map (fun i => (i.zero, i.size, i.bytes)) = some (some (.bool false), 1, 1) := by kernel_rfl
theorem mk_bools (n : Nat) (hn : n ≤ 1000) (w : World) :
    (Instr.makeSlice 38 (.int .i64 n) (.int .i64 n)).run Try.prog w = .ok (.slice (some ⟨w.heap.size, 0, none⟩) n n) (w.alloc (.cells ((List.replicate n false).map Value.bool).toArray 4)) := by
  obtain ⟨i0, hi, hz0, hz1, hz2⟩ := info_parts info4
  have h := run_make (P := Try.prog) w 38 4 i0 _ Try.underlying38 hi hz0 .i64 .i64 n n (by omega) (by omega) (by rw [hz2]; omega) (by omega)
  rw [hz1] at h
  have e : ((List.replicate n false).map Value.bool).toArray = madeCells (Value.bool false).cells (n * 1) := by
    apply Array.ext
    · simp [madeCells]
    · intro i h1 h2
      simp [madeCells, Value.cells, Nat.mod_one]
  rw [e]
  exact h

set_option maxRecDepth 100000 in
set_option maxHeartbeats 8000000 in
theorem ledgerOrder_walk (a0 : Option Addr) (len0 cap0 : Nat) (z0 : List Int) (a1 : Option Addr) (len1 cap1 : Nat) (z1 : List Int) (w : World) (w0 : IsRow .i64 w a0 len0 cap0 z0) (w1 : IsRow .i64 w a1 len1 cap1 z1) :
    Calls Try.prog 4 #[.slice a0 len0 cap0, .slice a1 len1 cap1] w fun e w' => e = .returned (.bool true) ∧ Below w.heap.size w w' := by
  have hrow := w0.has
  have hrow1 := w1.has
  clear w0 w1
  go_enter Try.func4, Try.ntmps4
  go_upto_region 6 with (first
    | (go_at_call 7; refine (known_any w).mono ?_; rintro e w1 ⟨rfl, hb1⟩; have kr := room_any 1000 1000 (by decide) (by decide) w1)
    | (go_at_call 9; refine kr.mono ?_; rintro e w3 ⟨L, fp, r, rfl, hO3, hc3, hu3, hm3, hk3, hf3, hb3⟩))
  have hcp : r.cpu = 1000 := congrArg (fun x => x.2.1) hc3
  have hcm : r.mem = 1000 := congrArg (fun x => x.2.2.1) hc3
  have hbw : Below w.heap.size w w3 := hb1.trans (hb3.mono hb1.size)
  have hfw : ∀ b, fp b → w.heap.size ≤ b := fun b hb => Nat.le_trans hb1.size (hf3 b hb)
  clear kr hb1 hb3 hf3 hc3
  go_cut [6] (fun v wx => ∃ K : Nat, v = .int .i64 K ∧ K ≤ 20 ∧ K ≤ len0 ∧ wx = w3)
  case first =>
    go_wp2
    go_meet
    case rel => exact ⟨min len0 20, by rw [show min (len0 : Int) 20 = ((min len0 20 : Nat) : Int) by omega], by omega, by omega, rfl⟩
  case rest =>
    obtain ⟨K, rfl, hK20, hKl, rfl⟩ := hcut
    have hmk := mk_bools (K + 1) (by omega) wc
    rw [show ((K + 1 : Nat) : Int) = (K : Int) + 1 by omega] at hmk
    have hB0 : Box (wc.alloc (.cells ((List.replicate (K + 1) false).map Value.bool).toArray 4)) wc.heap.size ((List.replicate (K + 1) false).map Value.bool).toArray 4 := Box.new wc _ _ rfl
    have hg0 : ∀ g, (List.replicate (K + 1) false).getD g false = false := fun g => by
      simp only [List.getD, List.getElem?_replicate]
      split <;> rfl
    have ht0 : ∀ n, tot z0 (List.replicate (K + 1) false) n = 0 := by
      intro n
      induction n with
      | zero => rfl
      | succ n ih => unfold tot; rw [ih, hg0]; rfl
    have hS0 : OS w L wc.heap.size K z0 fp r [] (List.replicate (K + 1) false) 0 (wc.alloc (.cells ((List.replicate (K + 1) false).map Value.bool).toArray 4)) :=
      ⟨hO3.later (up (Below.refl _ _) _), hcp, hcm, hu3, hm3, hB0, hO3.outs, by simp, (fun g h => by rw [hg0] at h; cases h), (fun _ _ => rfl), (ht0 _).symm, by simp, hfw, hbw.size, up hbw _⟩
    clear hO3 hcp hcm hu3 hm3 hk3 hbw hfw hB0 ht0
    generalize hWB : wc.alloc (.cells ((List.replicate (K + 1) false).map Value.bool).toArray 4) = WB at hS0 hmk
    generalize hBt : wc.heap.size = Bt at hS0 hmk
    go_wp2
    go_loopw [7, 9] (fun v i wr => ∃ (j : Nat) (S : Int) (fp : Nat → Prop) (r : Rec) (G : List (Int × Grp)) (bs : List Bool), j ≤ K ∧ i = .int .i64 ((j : Int) + 1) ∧ v = .int .i64 S ∧ OS w L Bt K z0 fp r G bs S wr ∧ G.length ≤ j ∧ ∀ g, j < g → bs.getD g false = false) (fun _ i _ => K + 1 - (intOf i).toNat)
    case atStart => exact ⟨0, 0, fp, r, [], _, by omega, by simp, rfl, hS0, by simp, fun g _ => hg0 g⟩
    case round =>
      clear hS0 hg0 hmk hWB hBt
      obtain ⟨j, S, fp, r, G, bs, hj, rfl, rfl, hS, hGj, hbs⟩ := hrel
      by_cases hlt : j < K
      · obtain ⟨x, rfl, hz⟩ := hrow.2 j (by omega)
        have hz := cell_below hS.bel hz (block_lt hz)
        have hd : z0.getD j 0 % 9 = dOf z0 (j + 1) := rfl
        obtain ⟨d, hd'⟩ : ∃ d, dOf z0 (j + 1) = d := ⟨_, rfl⟩
        have hd0 : 0 ≤ d ∧ d < 9 := hd' ▸ dOf_bounds z0 (j + 1)
        generalize hzz : z0.getD j 0 = z at hz hd
        have kd := fun W => within_any z 9 d (by decide) (by decide) (hd.trans hd') W
        have h1 : (j : Int) + 1 ≤ (K : Int) := by omega
        have h2 : j < len0 := by omega
        have hwf := wf_nat j (by omega)
        have htb := tot_bounds z0 bs (K + 1)
        have hO1 := hS.one.later (up (Below.refl _ _) (.cells #[.string ⟨#[112]⟩, .string nB, .int .i64 d, .int .i64 0, .bool false] 32))
        have hGn : look G ((j : Int) + 1) = none := by
          have := hS.no (j + 1) (hbs (j + 1) (by omega))
          rwa [show ((j + 1 : Nat) : Int) = (j : Int) + 1 by omega] at this
        have kt := take_ok _ L fp r G hO1 ((j : Int) + 1) hwf hGn (by omega) wr.heap.size 0 1 ⟨⟨#[112]⟩, nB, d, 0, false⟩ (pls_lit wr _) hS.one.outs rfl ⟨hd0.1, Int.le_refl 0⟩ (by rw [hS.u, hS.m, hS.cpu, hS.mem, hS.sum]; simp; omega)
        have hSb : 0 ≤ S ∧ S ≤ 168 := by rw [hS.sum]; omega
        clear htb hd hGn hwf hO1
        go_upto_region 14 with (first
          | (go_at_call 8; refine (kd _).mono ?_; rintro e wr ⟨rfl, rfl⟩)
          | (go_at_call 10; refine kt.mono ?_; rintro e w5 ⟨rfl, fp5, a5, c5, hO5, hf5, hK5⟩))
        have hK5' : Kept fp wr w5 := (Kept.of_below (up (Below.refl _ _) _)).trans hK5
        have hf5' : ∀ b, fp5 b → fp b ∨ wr.heap.size ≤ b := fun b hb => (hf5 b hb).imp_right (fun h => by simp at h; omega)
        have hb5 : Below w.heap.size w w5 := hS.bel.trans (hK5'.below hS.bel.size hS.fw)
        have hz5 : w5.cell? (x.add j) = some (.int .i64 z) := by
          obtain ⟨x', hx', hz0⟩ := hrow.2 j (by omega)
          cases hx'
          rw [hzz] at hz0
          exact cell_below hb5 hz0 (block_lt hz0)
        have hRow5 := hK5'.box hS.row hS.out
        have hl := hS.len
        have hc5 : w5.cell? ⟨Bt, j + 1, none⟩ = some (.bool (bs.getD (j + 1) false)) := hRow5.cell (by simp [List.getD, List.getElem?_eq_getElem (show j + 1 < bs.length by omega)])
        have hfz := hRow5.frozen (j + 1)
        have hT := hS.took (j + 1) (by omega) (hbs (j + 1) (by omega)) a5 c5 (by omega) (by rw [hd', show ((j + 1 : Nat) : Int) = (j : Int) + 1 by omega]; exact hO5) hf5' hK5'
        rw [hd'] at hT
        have hap := hS.one.apartG
        have hTl : (put iK G ((j + 1 : Nat) : Int) ⟨a5, c5, [⟨⟨#[112]⟩, nB, d, 0, false⟩]⟩).length ≤ j + 1 := by rw [length_put iK hap]; split <;> omega
        have hTb : Hid (∀ g, j + 1 < g → (bs.set (j + 1) true).getD g false = false) := fun g hg => by rw [set_getD bs (j + 1) true (by omega), if_neg (by omega)]; exact hbs g (by omega)
        clear kt hK5 hf5 hK5' hf5' hb5 hRow5 hO5 hS hbs hz hap
        go_wp2_with (go_at_call 8; refine (kd _).mono ?_; rintro e w5 ⟨rfl, rfl⟩)
        go_roundw
        case rel => exact ⟨j + 1, S + d, fp5, _, _, _, by omega, by simp, rfl, hT, hTl, hTb.out⟩
        case measure => simp [intOf]; omega
      · obtain rfl : j = K := by omega
        clear hbs hGj hlt hj
        go_wp2
        go_loopw [7, 10] (fun v i wr => ∃ (k : Nat) (S : Int) (fp : Nat → Prop) (r : Rec) (G : List (Int × Grp)) (bs : List Bool), k ≤ 30 ∧ i = .int .i64 k ∧ v = .int .i64 S ∧ OS w L Bt j z0 fp r G bs S wr) (fun _ i _ => 30 - (intOf i).toNat)
        case atStart => exact ⟨0, S, fp, r, G, bs, by omega, rfl, rfl, hS⟩
        case round =>
          clear hS
          obtain ⟨k, S, fp, r, G, bs, hk, rfl, rfl, hS⟩ := hrel
          by_cases hlt : k < len1 ∧ k < 30 ∧ 0 < j
          · obtain ⟨h1, h2, h3⟩ := hlt
            obtain ⟨y, rfl, hy⟩ := hrow1.2 k h1
            have hy := cell_below hS.bel hy (block_lt hy)
            generalize z1.getD k 0 = z at hy
            obtain ⟨g', hg'⟩ : ∃ g', z % (j : Int) = g' := ⟨_, rfl⟩
            have hg0 : 0 ≤ g' ∧ g' < j := by
              have e1 := Int.emod_nonneg z (show (j : Int) ≠ 0 by omega)
              have e2 := Int.emod_lt_of_pos z (show 0 < (j : Int) by omega)
              omega
            have kg := fun W => within_any z j g' (by omega) (by omega) hg' W
            obtain ⟨g, rfl⟩ : ∃ g : Nat, g' = g := ⟨g'.toNat, by omega⟩
            have h2' : (k : Int) < 30 := by omega
            have h3' : (0 : Int) < (j : Int) := by omega
            have hgj : g < j := by omega
            clear hg' hg0
            go_upto_region 19 with (go_at_call 8; refine (kg _).mono ?_; rintro e wr ⟨rfl, rfl⟩)
            have hwf : (Lit.int .i64 (1 + (g : Int))).wf = true := by
              have := wf_nat g (by omega)
              rwa [Int.add_comm] at this
            have eg : ((g + 1 : Nat) : Int) = 1 + (g : Int) := by omega
            have hSd := hS.later (Below.drew (Below.refl wr.heap.size wr))
            obtain ⟨d, hd'⟩ : ∃ d, dOf z0 (g + 1) = d := ⟨_, rfl⟩
            have hd0 : 0 ≤ d ∧ d < 9 := hd' ▸ dOf_bounds z0 (g + 1)
            have hl := hS.len
            have hcell : ∀ (W : World), Box W Bt (bs.map Value.bool).toArray 4 → W.cell? ⟨Bt, 1 + g, none⟩ = some (.bool (bs.getD (g + 1) false)) := fun W hB => by
              rw [Nat.add_comm]
              exact hB.cell (by simp [List.getD, List.getElem?_eq_getElem (show g + 1 < bs.length by omega)])
            have c0 : wr.cell? ⟨Bt, 1 + g, none⟩ = _ := hcell wr hS.row
            cases ht : bs.getD (g + 1) false with
            | true =>
              rw [ht] at hcell c0
              obtain ⟨a5, c5, hlk⟩ := hS.yes (g + 1) ht
              rw [eg, hd'] at hlk
              have hge : d ≤ r.u := by rw [hS.u, hS.sum, ← hd']; exact tot_ge z0 bs (g + 1) ht (j + 1) (by omega)
              have kG := give_one wr.drew L fp r G hSd.one (1 + (g : Int)) hwf a5 c5 ⟨⟨#[112]⟩, nB, d, 0, false⟩ hlk rfl ⟨hd0.1, Int.le_refl 0⟩ ⟨hge, by rw [hS.m]; exact Int.le_refl 0⟩
              go_cut [83] (fun v wx => v = .bool false ∧ One wx L fp (r.minus ⟨⟨#[112]⟩, nB, d, 0, false⟩) (del G (1 + (g : Int))) ∧ Kept fp wr wx)
              case first =>
                go_region_with (go_at_call 13; refine kG.mono ?_; rintro e w5 ⟨rfl, hO5, hK5⟩; have q5 := hcell w5 (hK5.box hSd.row hSd.out))
                all_goals
                  go_wp2
                  go_meet
                  case rel => exact ⟨rfl, hO5, (Kept.of_below (Below.drew (Below.refl _ _))).trans hK5⟩
              case rest =>
                obtain ⟨rfl, hO5, hK5⟩ := hcut
                have hG := hS.gave (g + 1) (by omega) ht (by rw [hd', eg]; exact hO5) hK5
                rw [hd'] at hG
                have hR5 := hK5.box hS.row hS.out
                have q5 := hcell wc hR5
                have f5 := hR5.frozen (1 + g)
                have hb5 : Below w.heap.size w wc := hS.bel.trans (hK5.below hS.bel.size hS.fw)
                obtain ⟨x, rfl, hz0⟩ := hrow.2 g (by omega)
                have hz5 := cell_below hb5 hz0 (block_lt hz0)
                have hzd : z0.getD g 0 % 9 = d := hd'
                generalize z0.getD g 0 = zg at hz5 hzd
                have kd := fun W => within_any zg 9 d (by decide) (by decide) hzd W
                have htb := tot_bounds z0 bs (j + 1)
                have hSb : 0 ≤ S ∧ S ≤ 168 := by rw [hS.sum]; omega
                have eg2 : (g + 1 : Nat) = 1 + g := by omega
                rw [eg2] at hG
                have hu := hG.u
                have ku := used_one _ L fp _ _ hG.one
                rw [hu] at ku
                generalize (r.minus ⟨⟨#[112]⟩, nB, d, 0, false⟩).m = mm at ku
                generalize (r.minus ⟨⟨#[112]⟩, nB, d, 0, false⟩).k = kk at ku
                have h1' : g < len0 := by omega
                clear hS hSd kG hlk hge hR5 hcell c0 htb hy kg hK5 hO5 hu hwf eg eg2
                go_wp2_with (first
                  | (go_at_call 8; refine (kd _).mono ?_; rintro e wc ⟨rfl, rfl⟩)
                  | (go_at_call 12; refine ku.mono ?_; rintro e w7 ⟨rfl, h7⟩))
                go_roundw
                case rel => exact ⟨k + 1, S - d, fp, _, _, _, by omega, by go_num, rfl, (hG.later h7).later (up (Below.refl _ _) _)⟩
                case measure => simp [intOf]; omega
            | false =>
              rw [ht] at hcell c0
              have hlk := hS.no (g + 1) ht
              rw [eg] at hlk
              have kG := give_nothing wr.drew L fp r G hSd.one (1 + (g : Int)) hwf hlk
              go_cut [83] (fun v wx => v = .bool false ∧ wx = wr.drew)
              case first =>
                go_region_with (go_at_call 13; refine kG.mono ?_; rintro e w5 ⟨rfl, rfl⟩)
                all_goals
                  go_wp2
                  go_meet
                  case rel => exact ⟨rfl, rfl⟩
              case rest =>
                obtain ⟨rfl, rfl⟩ := hcut
                have q5 := hcell wr.drew hSd.row
                have ku := used_one wr.drew L fp _ _ hSd.one
                rw [hS.u] at ku
                generalize r.m = mm at ku
                generalize r.k = kk at ku
                clear hS kG hlk hcell c0 hy kg hwf eg
                go_wp2_with (go_at_call 12; refine ku.mono ?_; rintro e w7 ⟨rfl, h7⟩)
                go_roundw
                case rel => exact ⟨k + 1, S, fp, _, _, _, by omega, by go_num, rfl, (hSd.later h7).later (up (Below.refl _ _) _)⟩
                case measure => simp [intOf]; omega
          · have hb := hS.bel
            by_cases h1 : k < len1
            · by_cases h2 : (k : Int) < 30
              · have h3 : ¬ (0 : Int) < (j : Int) := by omega
                clear hlt hS hrow hrow1
                go_wp2
                go_ret
                exact ⟨rfl, hb⟩
              · clear hlt hS hrow hrow1
                go_wp2
                go_ret
                exact ⟨rfl, hb⟩
            · clear hlt hS hrow hrow1
              go_wp2
              go_ret
              exact ⟨rfl, hb⟩

end Go.Proofs.Ytcmgpbdciifdmab
