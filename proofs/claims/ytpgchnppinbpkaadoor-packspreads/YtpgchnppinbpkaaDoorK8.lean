/- A ledger of one node, and one pod packed there; the statements' own known. -/
import Derived.Test.YtpgchnppinbpkaaDoorPD
namespace Go.Proofs.YtpgchnppinbpkaaDoor
open Go.RowKit Go.Maps
set_option linter.unusedSimpArgs false
set_option linter.unusedVariables false

/-- The name of the one node. -/
abbrev nB : ByteArray := ⟨#[110]⟩
theorem nB_small : nB.size ≤ maxLen := by decide
theorem node_one (cpu mem : Int) (hc : 0 ≤ cpu ∧ cpu ≤ 1099511627776) (hm : 0 ≤ mem ∧ mem ≤ 1099511627776) : nodeE nB cpu mem [] [] = 0 := by
  have e1 : isName nB = true := by decide +kernel
  have e2 : sizeB cpu mem = true := by unfold sizeB; simp; omega
  have e3 : setB [] = true := rfl
  unfold nodeE askE
  rw [e1, e2, e3]; rfl
theorem below_drewN {B : Nat} {w W : World} (h : Below B w W) (n : Nat) : Below B w (W.drewN n) := h.trans ⟨rfl, rfl, rfl, Nat.le_refl _, fun _ _ => rfl⟩

/-- A ledger of one node, with so much of each. -/
def OneN (w : World) (L : Nat) (fp : Nat → Prop) (r : Rec) (G : List (Int × Grp)) (c m : Int) : Prop := r.core = (nB, c, m, [], [], false) ∧ Led w L fp [(nB, r)] G
theorem OneN.later {w w' : World} {L : Nat} {fp : Nat → Prop} {r : Rec} {G : List (Int × Grp)} {c m : Int} (h : OneN w L fp r G c m) (hb : Below w.heap.size w w') : OneN w' L fp r G c m := ⟨h.1, h.2.later hb⟩

theorem put_oneN (w : World) (L : Nat) (fp : Nat → Prop) (G : List (Int × Grp)) (h : Led w L fp [] G) (cpu mem : Int) (hc : 0 ≤ cpu ∧ cpu ≤ 1099511627776) (hm : 0 ≤ mem ∧ mem ≤ 1099511627776) :
    Calls Tryd.prog 20 #[.pointer (some ⟨L, 0, none⟩), .agg #[.string nB, .int .i64 cpu, .int .i64 mem, .slice none 0 0, .slice none 0 0, .bool false]] w fun e w' => e = .returned (.int .i64 0) ∧ ∃ fp' r, OneN w' L fp' r G cpu mem ∧ Turn w w' fp fp' := by
  have e0 : putE [] nB cpu mem [] [] = 0 := by
    unfold putE
    rw [node_one cpu mem hc hm]
    have : ((look ([] : List (ByteArray × Rec)) nB).getD zrec) = zrec := rfl
    rw [this]
    have hz : zrec.u ≤ cpu ∧ zrec.m ≤ mem := ⟨hc.1, hm.1⟩
    simp [hz]
  refine (putL w L fp [] G h nB cpu mem none none 0 0 0 0 false [] [] nB_small ⟨by simp, by simp⟩ ⟨by simp, by simp⟩ rfl rfl SP.none SP.none (fun x hx => by cases hx) (fun x hx => by cases hx) (by simp) (by simp)).mono ?_
  rintro e w' ⟨rfl, fp', E', a3, c3, a4, c4, hL, hE, hT⟩
  rw [e0] at hE ⊢
  rw [if_pos rfl] at hE
  subst hE
  exact ⟨rfl, fp', _, ⟨rfl, hL⟩, hT⟩

/-- A pod that needs so much, and nothing else. -/
def pod1 (nm : ByteArray) (cpu mem : Int) (al : Bool) : PodT := ⟨nm, 1, cpu, mem, none, 0, [], none, 0, [], al⟩
theorem pod1_ok (w : World) (nm : ByteArray) (cpu mem : Int) (al : Bool) (h : 0 ≤ cpu ∧ 0 ≤ mem) : (pod1 nm cpu mem al).Ok w := ⟨⟨by simp [pod1], by simp [pod1]⟩, ⟨by simp [pod1], by simp [pod1]⟩, by simp [pod1], by simp [pod1], h⟩
theorem pods_one (w : World) (nm : ByteArray) (cpu mem : Int) (al : Bool) (h : 0 ≤ cpu ∧ 0 ≤ mem) : Pods (w.alloc (.cells #[.string nm, .int .i64 1, .int .i64 cpu, .int .i64 mem, .slice none 0 0, .slice none 0 0, .bool al] 48)) (some ⟨w.heap.size, 0, none⟩) [pod1 nm cpu mem al] := by
  intro i p hp
  cases i with
  | succ i => simp at hp
  | zero =>
    simp only [List.getElem?_cons_zero, Option.some.injEq] at hp
    subst hp
    have hb := Box.new w #[.string nm, .int .i64 1, .int .i64 cpu, .int .i64 mem, .slice none 0 0, .slice none 0 0, .bool al] 48 rfl
    exact ⟨_, _, rfl, ⟨hb.cell rfl, hb.cell rfl, hb.cell rfl, hb.cell rfl, hb.cell rfl, hb.cell rfl, hb.cell rfl⟩, pod1_ok _ _ _ _ _ h⟩

theorem best_one {G : List (Int × Grp)} {mode : Int} {nm : ByteArray} {cpu mem c m : Int} {r : Rec} (hr : r.core = (nB, c, m, [], [], false)) :
    bestR G [] mode (pod1 nm cpu mem false) [r] = if useC G [] nB + cpu ≤ c ∧ useM G [] nB + mem ≤ m ∧ useC G [] nB + cpu ≤ 9223372036854775807 ∧ useM G [] nB + mem ≤ 9223372036854775807 then some nB else none := by
  obtain ⟨h1, h2, h3, h4, h5, h6⟩ : r.nm = nB ∧ r.cpu = c ∧ r.mem = m ∧ r.xs = [] ∧ r.ys = [] ∧ r.cl = false := by simpa [Rec.core] using hr
  have hw : whyR G [] (pod1 nm cpu mem false) r = if useC G [] nB + cpu ≤ c ∧ useM G [] nB + mem ≤ m ∧ useC G [] nB + cpu ≤ 9223372036854775807 ∧ useM G [] nB + mem ≤ 9223372036854775807 then 0 else 4 := by
    simp only [whyR, pod1, h1, h2, h3, h4, h5, h6, whyN, roomB, onB]
    by_cases hf : useC G [] nB + cpu ≤ c ∧ useM G [] nB + mem ≤ m ∧ useC G [] nB + cpu ≤ 9223372036854775807 ∧ useM G [] nB + mem ≤ 9223372036854775807
    · rw [if_pos hf]
      have : (useC G [] nB + cpu ≤ 9223372036854775807 ∧ useM G [] nB + mem ≤ 9223372036854775807 ∧ useC G [] nB + cpu ≤ c ∧ useM G [] nB + mem ≤ m) := by omega
      simp [this, allB]
    · rw [if_neg hf]
      have : ¬ (useC G [] nB + cpu ≤ 9223372036854775807 ∧ useM G [] nB + mem ≤ 9223372036854775807 ∧ useC G [] nB + cpu ≤ c ∧ useM G [] nB + mem ≤ m) := by omega
      simp [this, allB]
  unfold bestR candR
  by_cases hf : useC G [] nB + cpu ≤ c ∧ useM G [] nB + mem ≤ m ∧ useC G [] nB + cpu ≤ 9223372036854775807 ∧ useM G [] nB + mem ≤ 9223372036854775807
  · rw [if_pos hf] at hw ⊢
    simp [hw, bstAt, h1]
  · rw [if_neg hf] at hw ⊢
    simp [hw]

/-- One pod packed on the one node. -/
theorem pack_oneN (w : World) (L : Nat) (fp : Nat → Prop) (r : Rec) (G : List (Int × Grp)) (c m : Int) (h : OneN w L fp r G c m) (hT : Tab w) (hG : G.length ≤ 100) (g : Int) (hg : (Lit.int .i64 g).wf = true) (hgn : look G g = none)
    (a : Option Addr) (pc : Nat) (nm : ByteArray) (cpu mem : Int) (hP : Pods w a [pod1 nm cpu mem false]) (hcm : 0 ≤ cpu ∧ 0 ≤ mem) (mode : Int) (A : Int) (hA : (if gW (·.cpu) nB G + cpu ≤ c ∧ gW (·.mem) nB G + mem ≤ m then 0 else 6) = A) :
    Calls Tryd.prog 10 #[.pointer (some ⟨L, 0, none⟩), .int .i64 g, .slice a 1 pc, .int .i64 mode] w fun e w' =>
      (A = 6 ∧ e = .returned (.tuple #[.slice none 0 0, .int .i64 6]) ∧ Below w.heap.size w w') ∨
      (A = 0 ∧ ∃ a c9 fp' r' a' c', e = .returned (.tuple #[.slice a 1 c9, .int .i64 0]) ∧ Pls w' a [⟨nm, nB, cpu, mem, false⟩] ∧ SP a ∧ OneN w' L fp' r' (put iK G g ⟨a', c', [⟨nm, nB, cpu, mem, false⟩]⟩) c m ∧ Turn w w' fp fp') := by
  have hc := h.2.1.cap (nB, r) (by simp)
  obtain ⟨h1, h2, h3, h4, h5, h6⟩ : r.nm = nB ∧ r.cpu = c ∧ r.mem = m ∧ r.xs = [] ∧ r.ys = [] ∧ r.cl = false := by simpa [Rec.core] using h.1
  simp only [h2, h3] at hc
  have hu : useC G [] nB = gW (·.cpu) nB G := by simp [useC, sW]
  have hv : useM G [] nB = gW (·.mem) nB G := by simp [useM, sW]
  have hb : bestR G [] mode (pod1 nm cpu mem false) [r] = if gW (·.cpu) nB G + cpu ≤ c ∧ gW (·.mem) nB G + mem ≤ m then some nB else none := by
    rw [best_one h.1, hu, hv]
    by_cases hf : gW (·.cpu) nB G + cpu ≤ c ∧ gW (·.mem) nB G + mem ≤ m
    · rw [if_pos hf, if_pos (by omega)]
    · rw [if_neg hf, if_neg (by omega)]
  have hE : packE [(nB, r)] G g mode [pod1 nm cpu mem false] = A := by
    unfold packE
    rw [hgn]
    simp only [Option.getD_none, zgrp, ne_eq, not_true, if_false, List.map_cons, List.map_nil, layR, hb, ← hA]
    by_cases hf : gW (·.cpu) nB G + cpu ≤ c ∧ gW (·.mem) nB G + mem ≤ m
    · simp [hf]
    · simp [hf]
  refine (pack_any w L fp [(nB, r)] G hG h.2 hT g hg (fun x hx => by rw [hgn] at hx; cases hx) a 1 pc [pod1 nm cpu mem false] hP rfl (by decide) mode).mono ?_
  rw [hE]
  rintro e w' (⟨h0, h1, h2⟩ | ⟨h0, a1, c1, fp', E', a', c', he, hPl, hsp, hn, hL, hk, hco, hT'⟩)
  · left
    have : A = 6 := by
      by_cases hf : gW (·.cpu) nB G + cpu ≤ c ∧ gW (·.mem) nB G + mem ≤ m
      · rw [if_pos hf] at hA; omega
      · rw [if_neg hf] at hA; omega
    subst this
    exact ⟨rfl, h1, h2⟩
  · right
    subst h0
    have hf : gW (·.cpu) nB G + cpu ≤ c ∧ gW (·.mem) nB G + mem ≤ m := by
      by_cases hf : gW (·.cpu) nB G + cpu ≤ c ∧ gW (·.mem) nB G + mem ≤ m
      · exact hf
      · rw [if_neg hf] at hA; cases hA
    have hpl : packL [(nB, r)] G mode [pod1 nm cpu mem false] = [⟨nm, nB, cpu, mem, false⟩] := by
      rw [if_pos hf] at hb
      unfold packL
      simp only [List.map_cons, List.map_nil, layR, hb]
      rfl
    rw [hpl] at he hPl hL
    match E', hk, hco with
    | [(k0, r0)], hk, hco =>
      simp only [List.map_cons, List.map_nil, List.cons.injEq, and_true] at hk hco
      subst hk
      exact ⟨rfl, a1, c1, fp', r0, a', c', he, hPl, hsp, ⟨hco.trans h.1, hL⟩, hT'⟩

theorem pack_no (w : World) (L : Nat) (fp : Nat → Prop) (h : Led w L fp [] []) (hT : Tab w) (a : Option Addr) (pc : Nat) (nm : ByteArray) (cpu mem : Int) (hP : Pods w a [pod1 nm cpu mem false]) (mode : Int) :
    Calls Tryd.prog 10 #[.pointer (some ⟨L, 0, none⟩), .int .i64 1, .slice a 1 pc, .int .i64 mode] w fun e w' => e = .returned (.tuple #[.slice none 0 0, .int .i64 6]) ∧ Below w.heap.size w w' := by
  refine (pack_any w L fp [] [] (by simp) h hT 1 (by decide) (fun x hx => by cases hx) a 1 pc [pod1 nm cpu mem false] hP rfl (by decide) mode).mono ?_
  have hE : packE [] [] 1 mode [pod1 nm cpu mem false] = 6 := rfl
  rw [hE]
  rintro e w' (⟨_, h1, h2⟩ | ⟨h0, _⟩)
  · exact ⟨h1, h2⟩
  · cases h0

abbrev pB : ByteArray := ⟨#[112]⟩
set_option maxRecDepth 100000 in
set_option maxHeartbeats 4000000 in
theorem known8_any (w : World) (hT : Tab w) : Calls Tryd.prog 7 #[] w fun e w' => e = .returned (.bool true) ∧ Below w.heap.size w w' := by
  go_enter Tryd.func7, Tryd.ntmps7
  go_upto_region 4 with (go_at_call 19; refine (newL w).mono ?_; rintro e w1 ⟨L, fp, rfl, hL1, hf1, hb1⟩)
  have k1 := pack_no (w1.alloc (.cells #[.string pB, .int .i64 1, .int .i64 0, .int .i64 0, .slice none 0 0, .slice none 0 0, .bool false] 48)) L fp (hL1.later (up (Below.refl _ _) _)) (hT.later (up hb1 _)) (some ⟨w1.heap.size, 0, none⟩) 1 pB 0 0 (pods_one w1 pB 0 0 false (by decide)) 0
  have hb2 := up hb1 (.cells #[.string pB, .int .i64 1, .int .i64 0, .int .i64 0, .slice none 0 0, .slice none 0 0, .bool false] 48)
  have hL2 := hL1.later (up (Below.refl _ _) (.cells #[.string pB, .int .i64 1, .int .i64 0, .int .i64 0, .slice none 0 0, .slice none 0 0, .bool false] 48))
  go_upto_region 5 with (go_at_call 10; refine k1.mono ?_; rintro e w3 ⟨rfl, hb3⟩)
  have hb13 := hb2.trans (hb3.mono hb2.size)
  have k2 := put_oneN w3 L fp [] (hL2.later hb3) 0 0 (by decide) (by decide)
  clear k1 hL1 hL2 hb1 hb2 hb3
  go_upto_region 6 with (go_at_call 20; refine k2.mono ?_; rintro e w4 ⟨rfl, fp4, r4, hO4, hT4⟩)
  have hb4 := hT4.below hf1 hb13
  have k3 := pack_oneN (w4.alloc (.cells #[.string pB, .int .i64 1, .int .i64 0, .int .i64 0, .slice none 0 0, .slice none 0 0, .bool false] 48)) L fp4 r4 [] 0 0 (hO4.later (up (Below.refl _ _) _)) (hT.later (up hb4 _)) (by simp) 1 (by decide) rfl (some ⟨w4.heap.size, 0, none⟩) 1 pB 0 0 (pods_one w4 pB 0 0 false (by decide)) (by decide) 0 0 rfl
  have hb5 := up hb4 (.cells #[.string pB, .int .i64 1, .int .i64 0, .int .i64 0, .slice none 0 0, .slice none 0 0, .bool false] 48)
  have hfw := hT4.low hf1 hb13.size
  clear k2 hO4 hT4 hf1 hb13
  go_upto_region 7 with (go_at_call 10; refine k3.mono ?_; rintro e w6 (⟨h0, _⟩ | ⟨_, a6, c6, fp6, r6, a7, c7, rfl, hP6, hs6, hO6, hT6⟩); cases h0)
  have hb6 := hT6.below hfw hb5
  obtain ⟨B, o, rfl, d0, d1, d2, d3, d4⟩ := hP6.2 0 _ rfl
  simp only [Nat.zero_mul, Nat.add_zero] at d0 d1 d2 d3 d4
  clear k3 hO6 hT6 hP6
  go_wp2
  go_ret
  exact ⟨rfl, hb6⟩

end Go.Proofs.YtpgchnppinbpkaaDoor
