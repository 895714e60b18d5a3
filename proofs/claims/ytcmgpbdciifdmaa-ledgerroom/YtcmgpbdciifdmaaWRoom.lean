/- The walk of LedgerRoom. -/
import Derived.Test.YtcmgpbdciifdmaaPL
import Derived.Test.YtcmgpbdciifdmaaIL
import Derived.Test.YtcmgpbdciifdmaaRD
import Derived.Deep.QuietTactic
import Derived.Deep.DeepCutAuto
import Derived.Deep.CutBlock
namespace Go.Proofs.Ytcmgpbdciifdmaa
open Go.RowKit Go.Maps
set_option linter.unusedSimpArgs false

/-- The places of a gang. -/
def plG (G : List (Int × Grp)) (g : Int) : List Pl := ((look G g).getD zgrp).ps
/-- What the first n gangs have on a node. -/
def pW (f : Pl → Int) (s : ByteArray) (G : List (Int × Grp)) : Nat → Int
  | 0 => 0
  | n + 1 => pW f s G n + sW f s (plG G n)
theorem pW_nil (f : Pl → Int) (s : ByteArray) : ∀ n, pW f s [] n = 0
  | 0 => rfl
  | n + 1 => by
    simp only [pW, pW_nil f s n]
    rfl
theorem pW_cons {f : Pl → Int} {s : ByteArray} {y : Int × Grp} {t : List (Int × Grp)} (ha : look t y.1 = none) (h0 : 0 ≤ y.1) : ∀ n : Nat, pW f s (y :: t) n = pW f s t n + if y.1 < n then sW f s y.2.ps else 0
  | 0 => by
    rw [if_neg (by omega)]
    rfl
  | n + 1 => by
    simp only [pW, pW_cons ha h0 n, plG, look_cons]
    by_cases e : y.1 = n
    · have hn : look t (n : Int) = none := by rw [← e]; exact ha
      rw [if_pos e, hn, if_neg (by omega), if_pos (by omega)]
      simp [zgrp, sW]
    · rw [if_neg e]
      by_cases h : y.1 < n
      · rw [if_pos h, if_pos (by omega)]; omega
      · rw [if_neg h, if_neg (by omega)]; omega
theorem pW_all {f : Pl → Int} {s : ByteArray} (n : Nat) : ∀ {G : List (Int × Grp)}, Apart G → (∀ e ∈ G, 0 ≤ e.1 ∧ e.1 < n) → pW f s G n = gW f s G
  | [], _, _ => pW_nil f s n
  | y :: t, ha, h => by
    unfold Apart at ha
    rw [List.pairwise_cons] at ha
    have hn : look t y.1 = none := by
      cases hl : look t y.1 with
      | none => rfl
      | some x => exact absurd rfl (ha.1 (y.1, x) (mem_of_look hl))
    have hy := h y (by simp)
    rw [pW_cons hn hy.1, if_pos hy.2, pW_all n ha.2 (fun e he => h e (by simp [he]))]
    simp only [gW]
    omega
theorem plG_mem {G : List (Int × Grp)} {g : Int} {p : Pl} (h : p ∈ plG G g) : ∃ e ∈ G, p ∈ e.2.ps := by
  unfold plG at h
  cases hl : look G g with
  | none => rw [hl] at h; cases h
  | some r => rw [hl] at h; exact ⟨_, mem_of_look hl, h⟩
theorem pW_mono {f : Pl → Int} {s : ByteArray} {G : List (Int × Grp)} (hf : ∀ e ∈ G, ∀ p ∈ e.2.ps, 0 ≤ f p) : ∀ {n m : Nat}, n ≤ m → pW f s G n ≤ pW f s G m := by
  intro n m h
  induction m with
  | zero => obtain rfl : n = 0 := by omega
            exact Int.le_refl _
  | succ m ih =>
    rcases Nat.lt_or_ge n (m + 1) with h1 | h1
    · have := ih (by omega)
      have h2 : 0 ≤ sW f s (plG G m) := sW_nonneg fun p hp => by
        obtain ⟨e, he, hpe⟩ := plG_mem hp
        exact hf e he p hpe
      simp only [pW]
      omega
    · obtain rfl : n = m + 1 := by omega
      exact Int.le_refl _
theorem sW_take_le {f : Pl → Int} {s : ByteArray} {ps : List Pl} (hf : ∀ p ∈ ps, 0 ≤ f p) (k : Nat) : 0 ≤ sW f s (ps.take k) ∧ sW f s (ps.take k) ≤ sW f s ps := by
  have h1 : sW f s ps = sW f s (ps.take k) + sW f s (ps.drop k) := by rw [← sW_append, List.take_append_drop]
  have h2 : 0 ≤ sW f s (ps.take k) := sW_nonneg fun p hp => hf p (List.mem_of_mem_take hp)
  have h3 : 0 ≤ sW f s (ps.drop k) := sW_nonneg fun p hp => hf p (List.mem_of_mem_drop hp)
  omega
/-- Whatever has been added up is no more than all. -/
theorem part_le {f : Pl → Int} {s : ByteArray} {G : List (Int × Grp)} (ha : Apart G) (hk : ∀ e ∈ G, 0 ≤ e.1 ∧ e.1 < (12 : Nat)) (hf : ∀ e ∈ G, ∀ p ∈ e.2.ps, 0 ≤ f p) {g : Nat} (hg : g < 12) (m : Nat) : 0 ≤ pW f s G g + sW f s ((plG G g).take m) ∧ pW f s G g + sW f s ((plG G g).take m) ≤ gW f s G := by
  have h0 := pW_mono (s := s) hf (Nat.zero_le g)
  have h1 := pW_mono (s := s) hf (show g + 1 ≤ 12 by omega)
  have h2 := sW_take_le (f := f) (s := s) (ps := plG G g) (fun p hp => by
    obtain ⟨e, he, hpe⟩ := plG_mem hp
    exact hf e he p hpe) m
  rw [pW_all 12 ha hk] at h1
  simp only [pW] at h0 h1
  omega

theorem str_eq (a b : ByteArray) : (a.toList == b.toList) = decide (a = b) := by
  rw [ByteArray.toList_eq, ByteArray.toList_eq]
  by_cases h : a = b
  · simp [h]
  · have : ¬ a.data = b.data := fun e => h (by cases a; cases b; simpa using e)
    simp [h, this]

/-- What stays while the sums are made. -/
structure Sums (W wr : World) (B : Nat) (c m : Int) : Prop where
  bel : Below W.heap.size W wr
  box : Box wr B #[.int .i64 c, .int .i64 m] 33
theorem Sums.later {W wr w' : World} {B : Nat} {c m : Int} (h : Sums W wr B c m) (hb : Below wr.heap.size wr w') : Sums W w' B c m := ⟨h.bel.trans (hb.mono h.bel.size), h.box.later hb⟩

theorem wf_sm (g : Int) (h0 : 0 ≤ g) (h1 : g ≤ 100000) : (Lit.int .i64 g).wf = true := by
  have e1 : IntKind.i64.min = -9223372036854775808 := rfl
  have e2 : IntKind.i64.max = 9223372036854775807 := rfl
  simp only [Lit.wf, e1, e2, Bool.and_eq_true, decide_eq_true_eq]
  omega
theorem name_small (z : Int) : (nameAt z).size ≤ maxLen := by
  have h : ∀ s ∈ names, s.size ≤ maxLen := by decide
  exact h _ (nameAt_mem z)
theorem plsTo_small {n : Int} {zs : List Int} {k : Nat} : ∀ p ∈ plsTo n zs k, p.node.size ≤ maxLen := fun p hp => by
  obtain ⟨i, z, rfl⟩ := plsTo_mem hp
  exact name_small z

/-- Between two rounds. -/
structure Rm (w : World) (L k : Nat) (fp : Nat → Prop) (E : List (ByteArray × Rec)) (G : List (Int × Grp)) (wr : World) : Prop where
  led : Led wr L fp E G
  keys : ∀ e ∈ G, 0 ≤ e.1 ∧ e.1 < (12 : Nat)
  few : G.length ≤ k
  fw : ∀ b, fp b → w.heap.size ≤ b
  bel : Below w.heap.size w wr

def sumR (W9 : World) (B : Nat) (c m pc pm : Int) (d : Nat → Bool) (w : World) : Prop :=
  W9.grownBy w (some B) ∧ Box w B #[.int .i64 (if d 19 then c + pc else c), .int .i64 (if d 21 then m + pm else m)] 33
def sumF (B PB Q : Nat) (c m pc pm : Int) (mn : Nat) (sl : Value) : Nat → Value → Prop
  | 0, v => v = .pointer (some ⟨B, 0, none⟩)
  | 1, v => v = .int .i64 c
  | 2, v => v = sl
  | 3, v => v = .int .i64 mn
  | 4, v => v = .pointer (some ⟨PB, Q, none⟩)
  | 5, v => v = .pointer (some ⟨PB, Q + 2, none⟩)
  | 6, v => v = .pointer (some ⟨PB, Q + 2, none⟩)
  | 7, v => v = .int .i64 pc
  | 8, v => v = .int .i64 (c + pc)
  | 9, v => v = .pointer (some ⟨B, 1, none⟩)
  | 10, v => v = .int .i64 m
  | 11, v => v = sl
  | 12, v => v = .int .i64 mn
  | 13, v => v = .pointer (some ⟨PB, Q, none⟩)
  | 14, v => v = .pointer (some ⟨PB, Q + 2, none⟩)
  | 15, v => v = .pointer (some ⟨PB, Q + 2 + 1, none⟩)
  | 16, v => v = .int .i64 pm
  | 17, v => v = .int .i64 (m + pm)
  | 18, v => v = .pointer (some ⟨B, 0, none⟩)
  | 20, v => v = .pointer (some ⟨B, 1, none⟩)
  | _, _ => True

set_option maxRecDepth 100000 in
set_option maxHeartbeats 8000000 in
theorem ledgerRoom_walk (a0 : Option Addr) (len0 cap0 : Nat) (z0 : List Int) (a1 : Option Addr) (len1 cap1 : Nat) (z1 : List Int) (w : World) (w0 : IsRow .i64 w a0 len0 cap0 z0) (w1 : IsRow .i64 w a1 len1 cap1 z1) :
    Calls Try.prog 4 #[.slice a0 len0 cap0, .slice a1 len1 cap1] w fun e w' => e = .returned (.bool true) ∧ Below w.heap.size w w' := by
  have hrow := w0.has
  have hrow1 := w1.has
  clear w0 w1
  go_enter Try.func4, Try.ntmps4
  go_wp2_with (first
    | (go_at_call 9; refine (known_any w).mono ?_; rintro e w1 ⟨rfl, hb1⟩)
    | (go_at_call 10; refine (newL w1).mono ?_; rintro e w3 ⟨L, fp, rfl, hI3, hf3, hb3⟩))
  have hbw : Below w.heap.size w w3 := hb1.trans (hb3.mono hb1.size)
  have hR0 : Rm w L 0 fp [] [] w3 := ⟨hI3, by simp, Nat.le_refl _, fun b hb => Nat.le_trans hb1.size (hf3 b hb), hbw⟩
  clear hb1 hb3 hI3 hf3 hbw
  go_loopw [6] (fun i wr => ∃ (k : Nat) (fp : Nat → Prop) (E : List (ByteArray × Rec)) (G : List (Int × Grp)), k ≤ 60 ∧ i = .int .i64 k ∧ Rm w L k fp E G wr) (fun i _ => 60 - (intOf i).toNat)
  case atStart => exact ⟨0, fp, [], [], by omega, rfl, hR0⟩
  case round =>
    clear hR0
    obtain ⟨k, fp, E, G, hk, rfl, hRm⟩ := hrel
    by_cases hlt : k < len0 ∧ k < 60
    · obtain ⟨x, z, rfl, hz⟩ := hrow.at hRm.bel (Nat.le_refl _) k hlt.1
      have h1 : k < len0 := hlt.1
      have h2 : (k : Int) < 60 := by omega
      obtain ⟨d, hd⟩ : ∃ d, z % 5 = d := ⟨_, rfl⟩
      have hd0 : 0 ≤ d ∧ d < 5 := by omega
      obtain ⟨t, ht⟩ : ∃ t, wrap64 (z.tdiv 5) = t := ⟨_, rfl⟩
      have kd := fun W => within_any z 5 d (by decide) (by decide) hd W
      clear hd
      go_upto_block 2 with (go_at_call 11; refine (kd _).mono ?_; rintro e wr ⟨rfl, rfl⟩)
      clear kd hz hrow
      go_cut [] (fun wx => ∃ (fp' : Nat → Prop) (E' : List (ByteArray × Rec)) (G' : List (Int × Grp)), Rm w L (k + 1) fp' E' G' wx)
      case first =>
        obtain ⟨hled, hkeys, hfew, hfw, hbel⟩ := hRm
        by_cases hd1 : d = 0
        · subst hd1
          go_wp2_with (first
            | (go_at_call 12; refine (lNode_any _ _ wr).mono ?_; rintro e w5 ⟨cpu, mem, b1, c1, xs, b2, c2, ys, al, rfl, _, g1, g2, hb5⟩
               have hne : ∀ x : Addr, wr.heap.size ≤ x.block → ¬ fp x.block := fun x hx hf => by have := hled.lt _ hf; omega
               have kp := putL w5 L fp E G (hled.later hb5) (nameAt t) cpu mem b1 b2 xs.length ys.length c1 c2 al xs ys (name_small t) g1.new.1 g2.new.1 rfl rfl g1.new.2.2.2.2 g2.new.2.2.2.2 (fun x hx _ => hne x (g1.new.2.1 x hx).1) (fun x hx _ => hne x (g2.new.2.1 x hx).1))
            | (go_at_call 13; refine kp.mono ?_; rintro e w6 ⟨rfl, fp', E', _, _, _, _, hL6, _, hT6⟩))
          have hb := hbel.trans (hb5.mono hbel.size)
          go_meet
          case rel => exact ⟨fp', E', G, hL6, hkeys, by omega, hT6.low hfw hb.size, hT6.below hfw hb⟩
        · have hd2 : (d == 0) = false := by simp [hd1]
          obtain ⟨g, hg⟩ : ∃ g, t % 12 = g := ⟨_, rfl⟩
          have hg0 : 0 ≤ g ∧ g < (12 : Nat) := by omega
          have hwf := wf_sm g hg0.1 (by omega)
          have kd := fun W => within_any t 12 g (by decide) (by decide) hg W
          clear hg
          by_cases hd3 : d = 1
          · subst hd3
            have kg := giveL wr L fp E G hled g hwf (by omega)
            go_wp2_with (first
              | (go_at_call 11; refine (kd _).mono ?_; rintro e wr ⟨rfl, rfl⟩)
              | (go_at_call 18; refine kg.mono ?_; rintro e w6 ⟨rfl, E', hL6, _, _, hT6⟩))
            go_meet
            case rel => exact ⟨fp, E', del G g, hL6, fun e he => hkeys e (mem_del.1 he).1, by have : (del G g).length ≤ G.length := List.length_filter_le _ _; omega, hT6.low hfw hbel.size, hT6.below hfw hbel⟩
          · have hd4 : (d == 1) = false := by simp [hd3]
            obtain ⟨q, hq⟩ : ∃ q, min len1 3 = q := ⟨_, rfl⟩
            have hq3 : q ≤ 3 := by omega
            have kl := lPlaces_any a1 len1 cap1 z1 t wr ⟨hrow1.1, fun i hi => by
              obtain ⟨x, hx, hc⟩ := hrow1.2 i hi
              exact ⟨x, hx, cell_below hbel hc (block_lt hc)⟩⟩ q hq
            have hln := plsTo_len t z1 q
            have hsm := plsTo_small (n := t) (zs := z1) (k := q)
            generalize plsTo t z1 q = ps at kl hln hsm
            clear hd1 hd3
            go_wp2_with (first
              | (go_at_call 11; refine (kd _).mono ?_; rintro e wr ⟨rfl, rfl⟩)
              | (go_at_call 20; refine kl.mono ?_; rintro e w5 ⟨b5, c5, rfl, hP5, hs5, hn5, hb5⟩
                 have kt := takeL w5 L fp E G (hled.later hb5) g hwf b5 q c5 ps hP5 hln hs5 hsm (fun x hx _ hf => by have := hled.lt _ hf; have := (hn5 x hx).1; omega) (by omega) (by omega))
              | (go_at_call 22; refine kt.mono ?_; rintro e w6 ⟨rfl, fp', E', G', a', c', hL6, hG6, _, _, hT6⟩))
            have hb := hbel.trans (hb5.mono hbel.size)
            go_meet
            case rel =>
              refine ⟨fp', E', G', hL6, ?_, ?_, hT6.low hfw hb.size, hT6.below hfw hb⟩
              · intro e he
                rw [hG6] at he
                split at he
                · rcases (mem_put iK).1 he with rfl | ⟨he, _⟩
                  · exact hg0
                  · exact hkeys e he
                · exact hkeys e he
              · rw [hG6]
                split
                · rw [length_put iK hled.1.apG]; split <;> omega
                · omega
      case rest =>
        obtain ⟨fp', E', G', hRm'⟩ := hcut
        clear hRm hd0 ht
        have kn := nodesL _ L fp' E' G' hRm'.led
        go_wp2_with (go_at_call 25; refine kn.mono ?_; rintro e W ⟨gN, cN, l, rfl, hN, hcore, _, hbN⟩)
        have hLW := hRm'.led.later hbN
        have hll : l.length = E'.length := by have := congrArg List.length hcore; simpa using this
        have hbW := hRm'.bel.trans (hbN.mono hRm'.bel.size)
        have h8 := hLW.1.lenE
        have hkeys := hRm'.keys
        have hfew := hRm'.few
        have hfw := hRm'.fw
        clear kn hRm' hbN
        generalize hn0 : E'.length = n0 at *
        go_loopw [9] (fun j wy => ∃ jn : Nat, jn ≤ n0 ∧ j = .int .i64 jn ∧ Below W.heap.size W wy) (fun j _ => n0 - (intOf j).toNat)
        case atStart => exact ⟨0, Nat.zero_le _, rfl, Below.refl _ _⟩
        case round =>
          obtain ⟨jn, hj, rfl, hby⟩ := hrel
          by_cases hjl : jn < n0
          · have hjl' : jn < l.length := by omega
            obtain ⟨gN', hgN, _, _, hat, _⟩ := hN jn _ (List.getElem?_eq_getElem hjl')
            cases hgN
            obtain ⟨r, hr⟩ : ∃ r, l[jn] = r := ⟨_, rfl⟩
            obtain ⟨e0, he0⟩ : ∃ e0, E'[jn]'(by omega) = e0 := ⟨_, rfl⟩
            have hrc : r.core = e0.2.core := by
              have : (l.map Rec.core)[jn]'(by simpa using hjl') = (E'.map (fun e => e.2.core))[jn]'(by simp; omega) := by simp only [hcore]
              simpa [hr, he0] using this
            have hmem : e0 ∈ E' := by rw [← he0]; exact List.getElem_mem _
            have hnm := hLW.1.named e0 hmem
            have hcap := hLW.1.cap e0 hmem
            obtain ⟨u1, u2, u3, u4, u5⟩ := hLW.1.uses e0.1 e0.2 (look_of_mem hLW.1.apE (show (e0.1, e0.2) ∈ E' from hmem))
            have q1 : r.nm = e0.1 := (congrArg (fun x => x.1) hrc).trans hnm.1
            have q2 : r.cpu = e0.2.cpu := congrArg (fun x => x.2.1) hrc
            have q3 : r.mem = e0.2.mem := congrArg (fun x => x.2.2.1) hrc
            rw [hr] at hat
            obtain ⟨s, cpu, mem, b1, c1, xs, b2, c2, ys, al, ru, rm, rk⟩ := r
            simp only at q1 q2 q3
            subst q1
            have hs := hnm.2
            rw [u1, ← q2] at u4
            rw [u2, ← q3] at u5
            have v4 : cpu ≤ 1099511627776 := by omega
            have v5 : mem ≤ 1099511627776 := by omega
            clear hrc hmem hnm hcap u1 u2 u3 q2 q3 he0 hr
            have hp1 := fun g hg m => part_le (f := (·.cpu)) (s := e0.1) hLW.1.apG hkeys (fun e he p hp => ((hLW.1.pls e he).2 p hp).1) (g := g) hg m
            have hp2 := fun g hg m => part_le (f := (·.mem)) (s := e0.1) hLW.1.apG hkeys (fun e he p hp => ((hLW.1.pls e he).2 p hp).2.1) (g := g) hg m
            have hp3 := fun g hg m => part_le (f := (fun _ => 1)) (s := e0.1) hLW.1.apG hkeys (fun e he p hp => by decide) (g := g) hg m
            have hcnt := hLW.1.count e0.1
            have a1 := pW_all (f := (·.cpu)) (s := e0.1) 12 hLW.1.apG hkeys
            have a2 := pW_all (f := (·.mem)) (s := e0.1) 12 hLW.1.apG hkeys
            have a3 := pW_all (f := (fun _ => 1)) (s := e0.1) 12 hLW.1.apG hkeys
            generalize hS : e0.1 = S at *
            go_upto_region 22 with fail
            have hSu : Sums W (wr.alloc (.cells #[.int .i64 0, .int .i64 0] 33)) wr.heap.size (pW (·.cpu) S G' 0) (pW (·.mem) S G' 0) := ⟨up hby _, Box.new wr _ _ rfl⟩
            have hWB := hby.size
            generalize wr.alloc (.cells #[.int .i64 0, .int .i64 0] 33) = wz0 at hSu ⊢
            generalize wr.heap.size = B at hSu hWB ⊢
            go_wp2
            go_loopw [11, 12] (fun n g wz => ∃ gn : Nat, gn ≤ 12 ∧ g = .int .i64 gn ∧ n = .int .i64 (pW (fun _ => 1) S G' gn) ∧ Sums W wz B (pW (·.cpu) S G' gn) (pW (·.mem) S G' gn)) (fun _ g _ => 12 - (intOf g).toNat)
            case atStart => exact ⟨0, by omega, rfl, rfl, hSu⟩
            case round =>
              clear hSu
              obtain ⟨gn, hgn, rfl, rfl, hSu⟩ := hrel
              by_cases hgl : gn < 12
              · obtain ⟨n1, hn1⟩ : ∃ n1, (plG G' gn).length = n1 := ⟨_, rfl⟩
                have kp := placesL _ L fp' E' G' (hLW.later hSu.bel) gn (wf_sm _ (by omega) (by omega)) (plG G' gn) n1 rfl hn1
                have hz0 := sW_zero (f := (·.cpu)) (s := S) (ps := []) (by simp)
                go_wp2_with (go_at_call 26; refine kp.mono ?_; rintro e w7 ⟨a7, c7, rfl, hP7, hs7, hn7, _, hb7⟩)
                have hSu7 := hSu.later hb7
                have hB7 : ∀ x, a7 = some x → x.block ≠ B := fun x hx e => by have := (hn7 x hx).1; have := hSu.box.lt; omega
                clear kp hSu hn7 hb7
                go_loopw [11, 14] (fun n m wv => ∃ mn : Nat, mn ≤ n1 ∧ m = .int .i64 mn ∧ n = .int .i64 (pW (fun _ => 1) S G' gn + sW (fun _ => 1) S ((plG G' gn).take mn)) ∧ Sums W wv B (pW (·.cpu) S G' gn + sW (·.cpu) S ((plG G' gn).take mn)) (pW (·.mem) S G' gn + sW (·.mem) S ((plG G' gn).take mn)) ∧ Pls wv a7 (plG G' gn)) (fun _ m _ => n1 - (intOf m).toNat)
                case atStart => exact ⟨0, Nat.zero_le _, rfl, by simp [sW], by simpa [sW] using hSu7, hP7⟩
                case round =>
                  clear hSu7 hP7
                  obtain ⟨mn, hmn, rfl, rfl, hSu, hP⟩ := hrel
                  by_cases hml : mn < n1
                  · obtain ⟨PB, PO, rfl, hpa⟩ := hP.2 mn _ (List.getElem?_eq_getElem (show mn < (plG G' gn).length by omega))
                    have t1 := sW_take (f := (·.cpu)) (s := S) (ps := plG G' gn) (show mn < (plG G' gn).length by omega)
                    have t2 := sW_take (f := (·.mem)) (s := S) (ps := plG G' gn) (show mn < (plG G' gn).length by omega)
                    have t3 := sW_take (f := (fun _ => 1)) (s := S) (ps := plG G' gn) (show mn < (plG G' gn).length by omega)
                    have y1 := hp1 gn hgl (mn + 1)
                    have y2 := hp2 gn hgl (mn + 1)
                    have y3 := hp3 gn hgl (mn + 1)
                    have x1 := hp1 gn hgl mn
                    have x2 := hp2 gn hgl mn
                    have x3 := hp3 gn hgl mn
                    obtain ⟨p, hp⟩ : ∃ p, (plG G' gn)[mn]'(by omega) = p := ⟨_, rfl⟩
                    rw [hp] at hpa t1 t2 t3
                    obtain ⟨pod, node, pc, pm, pal⟩ := p
                    simp only at t1 t2 t3
                    obtain ⟨d0, d1, d2, d3, d4⟩ := hpa
                    simp only at d0 d1 d2 d3 d4
                    have n18 : n1 ≤ 1000 := by have := hP.1; omega
                    have m18 : (mn : Int) < 1000 := by omega
                    have s0 := cell_below hSu.bel hat.1 (block_lt hat.1)
                    obtain ⟨c0, c1'⟩ := hSu.box.cells2
                    have f0 := hSu.box.frozen 0
                    have f1 := hSu.box.frozen 1
                    have d3' : wr.cell? ⟨PB, PO + mn * 5 + 2 + 1, none⟩ = some (.int .i64 pm) := d3
                    have hPB : PB ≠ B := hB7 _ rfl
                    have hBP : B ≠ PB := hPB.symm
                    have hQ : Hid (Pls wr (some ⟨PB, PO, none⟩) (plG G' gn)) := hP
                    have hsq := str_eq node S
                    have T1 : pW (·.cpu) S G' gn + sW (·.cpu) S ((plG G' gn).take (mn + 1)) = (pW (·.cpu) S G' gn + sW (·.cpu) S ((plG G' gn).take mn)) + if node = S then pc else 0 := by rw [t1]; omega
                    have T2 : pW (·.mem) S G' gn + sW (·.mem) S ((plG G' gn).take (mn + 1)) = (pW (·.mem) S G' gn + sW (·.mem) S ((plG G' gn).take mn)) + if node = S then pm else 0 := by rw [t2]; omega
                    have T3 : pW (fun _ => (1 : Int)) S G' gn + sW (fun _ => (1 : Int)) S ((plG G' gn).take (mn + 1)) = (pW (fun _ => (1 : Int)) S G' gn + sW (fun _ => (1 : Int)) S ((plG G' gn).take mn)) + if node = S then 1 else 0 := by rw [t3]; omega
                    rw [T1] at y1
                    rw [T2] at y2
                    rw [T3] at y3
                    obtain ⟨c, hc⟩ : ∃ c, pW (·.cpu) S G' gn + sW (·.cpu) S ((plG G' gn).take mn) = c := ⟨_, rfl⟩
                    obtain ⟨m, hm⟩ : ∃ m, pW (·.mem) S G' gn + sW (·.mem) S ((plG G' gn).take mn) = m := ⟨_, rfl⟩
                    obtain ⟨ct, hct⟩ : ∃ ct, pW (fun _ => (1 : Int)) S G' gn + sW (fun _ => (1 : Int)) S ((plG G' gn).take mn) = ct := ⟨_, rfl⟩
                    rw [hc] at T1 x1 y1 c0 hSu
                    rw [hm] at T2 x2 y2 c1' hSu
                    rw [hct] at T3 x3 y3
                    rw [hct]
                    have T1 : Hid _ := T1
                    have T2 : Hid _ := T2
                    have T3 : Hid _ := T3
                    clear t1 t2 t3 hp hp1 hp2 hp3 hP hB7 a1 a2 a3 hz0 hat hN hc hm hct
                    by_cases heq : node = S
                    · have hq : (node.toList == S.toList) = true := by rw [hsq]; simp [heq]
                      simp only [if_pos heq] at y1 y2 y3
                      have T1 : Hid _ := (T1.out.trans (by rw [if_pos heq]) : _ = c + pc)
                      have T2 : Hid _ := (T2.out.trans (by rw [if_pos heq]) : _ = m + pm)
                      have T3 : Hid _ := (T3.out.trans (by rw [if_pos heq]) : _ = ct + 1)
                      clear heq hsq
                      go_upto_region 29 with fail
                      go_quiet (fail)
                      go_upto_region 30 with fail
                      have hSu9 : Sums W (wr.drewN nq) B c m := ⟨below_drewN hSu.bel _, hSu.box⟩
                      have hP9 : Pls (wr.drewN nq) (some ⟨PB, PO, none⟩) (plG G' gn) := hQ.out
                      have d2 : (wr.drewN nq).cell? ⟨PB, PO + mn * 5 + 2, none⟩ = some (.int .i64 pc) := d2
                      have d3' : (wr.drewN nq).cell? ⟨PB, PO + mn * 5 + 2 + 1, none⟩ = some (.int .i64 pm) := d3'
                      clear hSu hQ d0 d1 d3 d4 c0 c1' f0 f1 s0 hq
                      generalize wr.drewN nq = W9 at hSu9 hP9 d2 d3' ⊢
                      refine wp_region_done (sumR W9 B c m pc pm) (sumF B PB (PO + mn * 5) c m pc pm mn (.slice (some ⟨PB, PO, none⟩) n1 c7)) (by kernel_rfl) (by kernel_rfl) ?_ ?step ?rest
                      · intro d hd
                        exact ⟨(World.grownBy.refl W9 (some B)).trans (below_grown (Below.drew (Below.refl _ _)) _), by rw [hd 19, hd 21]; exact hSu9.box⟩
                      case step =>
                        intro i o ho d d' b w1 hdi hd1 hd2 hcl hR hold hdep
                        have o10 : sl b 10 = .pointer (some ⟨B, 0, none⟩) := hold 10 (by kernel_rfl)
                        have o13 : sl b 13 = .slice (some ⟨PB, PO, none⟩) n1 c7 := hold 13 (by kernel_rfl)
                        have o14 : sl b 14 = .int .i64 mn := hold 14 (by kernel_rfl)
                        have i1 : (mn : Int) < n1 := by omega
                        have hsame : i ≠ 19 → i ≠ 21 → sumR W9 B c m pc pm d' w1 := fun h1 h2 => ⟨hR.1, by rw [hd2 19 (Ne.symm h1), hd2 21 (Ne.symm h2)]; exact hR.2⟩
                        have k2 : w1.cell? ⟨PB, PO + mn * 5 + 2, none⟩ = some (.int .i64 pc) := hR.1.cell d2 (by simpa using hPB)
                        have k3 : w1.cell? ⟨PB, PO + mn * 5 + 2 + 1, none⟩ = some (.int .i64 pm) := hR.1.cell d3' (by simpa using hPB)
                        have wA : IntKind.i64.wrap (c + pc) = c + pc := IntWalk.i64_in _ (by omega)
                        have wB : IntKind.i64.wrap (m + pm) = m + pm := IntWalk.i64_in _ (by omega)
                        have q0 := hR.2.frozen 0
                        have q1 := hR.2.frozen 1
                        rcases i with _ | _ | _ | _ | _ | _ | _ | _ | _ | _ | _ | _ | _ | _ | _ | _ | _ | _ | _ | _ | _ | _ | i
                        all_goals try (cases ho)
                        · exact okD_val rfl rfl (want_none rfl b) (by simp [go_sem, o10]) (hsame (by decide) (by decide)) rfl
                        · have f95 : sl b 95 = .pointer (some ⟨B, 0, none⟩) := hdep 0 _ rfl (by kernel_rfl)
                          have h19 : d 19 = false := by
                            cases hx : d 19 with
                            | false => rfl
                            | true => have h8 := hcl 19 _ rfl hx 8 (by kernel_rfl); have h1' := hcl 8 _ rfl h8 1 (by kernel_rfl); rw [h1'] at hdi; cases hdi
                          have hb := hR.2
                          rw [h19] at hb
                          have k0 : w1.cell? ⟨B, 0, none⟩ = some (.int .i64 c) := hb.cell rfl
                          exact okD_val rfl rfl (want_none rfl b) (by simp [go_sem, f95, k0]) (hsame (by decide) (by decide)) rfl
                        · exact okD_val rfl rfl (want_none rfl b) (by simp [go_sem, o13]) (hsame (by decide) (by decide)) rfl
                        · exact okD_val rfl rfl (want_none rfl b) (by simp [go_sem, o14]) (hsame (by decide) (by decide)) rfl
                        · have f97 : sl b 97 = .slice (some ⟨PB, PO, none⟩) n1 c7 := hdep 2 _ rfl (by kernel_rfl)
                          have f98 : sl b 98 = .int .i64 mn := hdep 3 _ rfl (by kernel_rfl)
                          exact okD_val rfl rfl (want_none rfl b) (by simp [go_sem, f97, f98, i1]) (hsame (by decide) (by decide)) rfl
                        · have f99 : sl b 99 = .pointer (some ⟨PB, PO + mn * 5, none⟩) := hdep 4 _ rfl (by kernel_rfl)
                          exact okD_val rfl rfl (want_none rfl b) (by simp [go_sem, f99]) (hsame (by decide) (by decide)) rfl
                        · have f100 : sl b 100 = .pointer (some ⟨PB, PO + mn * 5 + 2, none⟩) := hdep 5 _ rfl (by kernel_rfl)
                          exact okD_val rfl rfl (want_none rfl b) (by simp [go_sem, f100]) (hsame (by decide) (by decide)) rfl
                        · have f101 : sl b 101 = .pointer (some ⟨PB, PO + mn * 5 + 2, none⟩) := hdep 6 _ rfl (by kernel_rfl)
                          exact okD_val rfl rfl (want_none rfl b) (by simp [go_sem, f101, k2]) (hsame (by decide) (by decide)) rfl
                        · have f96 : sl b 96 = .int .i64 c := hdep 1 _ rfl (by kernel_rfl)
                          have f102 : sl b 102 = .int .i64 pc := hdep 7 _ rfl (by kernel_rfl)
                          exact okD_val rfl rfl (want_none rfl b) (by simp [go_sem, f96, f102, wA]) (hsame (by decide) (by decide)) rfl
                        · exact okD_val rfl rfl (want_none rfl b) (by simp [go_sem, o10]) (hsame (by decide) (by decide)) rfl
                        · have f104 : sl b 104 = .pointer (some ⟨B, 1, none⟩) := hdep 9 _ rfl (by kernel_rfl)
                          have h21 : d 21 = false := by
                            cases hx : d 21 with
                            | false => rfl
                            | true => have h8 := hcl 21 _ rfl hx 17 (by kernel_rfl); have h1' := hcl 17 _ rfl h8 10 (by kernel_rfl); rw [h1'] at hdi; cases hdi
                          have hb := hR.2
                          rw [h21] at hb
                          have k1 : w1.cell? ⟨B, 1, none⟩ = some (.int .i64 m) := hb.cell rfl
                          exact okD_val rfl rfl (want_none rfl b) (by simp [go_sem, f104, k1]) (hsame (by decide) (by decide)) rfl
                        · exact okD_val rfl rfl (want_none rfl b) (by simp [go_sem, o13]) (hsame (by decide) (by decide)) rfl
                        · exact okD_val rfl rfl (want_none rfl b) (by simp [go_sem, o14]) (hsame (by decide) (by decide)) rfl
                        · have f106 : sl b 106 = .slice (some ⟨PB, PO, none⟩) n1 c7 := hdep 11 _ rfl (by kernel_rfl)
                          have f107 : sl b 107 = .int .i64 mn := hdep 12 _ rfl (by kernel_rfl)
                          exact okD_val rfl rfl (want_none rfl b) (by simp [go_sem, f106, f107, i1]) (hsame (by decide) (by decide)) rfl
                        · have f108 : sl b 108 = .pointer (some ⟨PB, PO + mn * 5, none⟩) := hdep 13 _ rfl (by kernel_rfl)
                          exact okD_val rfl rfl (want_none rfl b) (by simp [go_sem, f108]) (hsame (by decide) (by decide)) rfl
                        · have f109 : sl b 109 = .pointer (some ⟨PB, PO + mn * 5 + 2, none⟩) := hdep 14 _ rfl (by kernel_rfl)
                          exact okD_val rfl rfl (want_none rfl b) (by simp [go_sem, f109]) (hsame (by decide) (by decide)) rfl
                        · have f110 : sl b 110 = .pointer (some ⟨PB, PO + mn * 5 + 2 + 1, none⟩) := hdep 15 _ rfl (by kernel_rfl)
                          exact okD_val rfl rfl (want_none rfl b) (by simp [go_sem, f110, k3]) (hsame (by decide) (by decide)) rfl
                        · have f105 : sl b 105 = .int .i64 m := hdep 10 _ rfl (by kernel_rfl)
                          have f111 : sl b 111 = .int .i64 pm := hdep 16 _ rfl (by kernel_rfl)
                          exact okD_val rfl rfl (want_none rfl b) (by simp [go_sem, f105, f111, wB]) (hsame (by decide) (by decide)) rfl
                        · exact okD_val rfl rfl (want_none rfl b) (by simp [go_sem, o10]) (hsame (by decide) (by decide)) rfl
                        · have f113 : sl b 113 = .pointer (some ⟨B, 0, none⟩) := hdep 18 _ rfl (by kernel_rfl)
                          have f103 : sl b 103 = .int .i64 (c + pc) := hdep 8 _ rfl (by kernel_rfl)
                          have kx : ∃ v, w1.cell? ⟨B, 0, none⟩ = some v := ⟨_, hR.2.cell rfl⟩
                          obtain ⟨v, kx⟩ := kx
                          refine okD_store (w2 := w1.setCell ⟨B, 0, none⟩ (.int .i64 (c + pc))) rfl rfl (want_none rfl b) (by simp [go_sem, f113, f103, kx, q0]) ⟨grown_trans hR.1 (grown_set _ _ _ _), ?_⟩ trivial
                          have hb := hR.2.set 0 (.int .i64 (c + pc))
                          simp only [List.setIfInBounds_toArray, List.set_cons_succ, List.set_cons_zero] at hb
                          rw [hd1, hd2 21 (by decide)]
                          exact hb
                        · exact okD_val rfl rfl (want_none rfl b) (by simp [go_sem, o10]) (hsame (by decide) (by decide)) rfl
                        · have f114 : sl b 114 = .pointer (some ⟨B, 1, none⟩) := hdep 20 _ rfl (by kernel_rfl)
                          have f112 : sl b 112 = .int .i64 (m + pm) := hdep 17 _ rfl (by kernel_rfl)
                          have kx : ∃ v, w1.cell? ⟨B, 1, none⟩ = some v := ⟨_, hR.2.cell rfl⟩
                          obtain ⟨v, kx⟩ := kx
                          refine okD_store (w2 := w1.setCell ⟨B, 1, none⟩ (.int .i64 (m + pm))) rfl rfl (want_none rfl b) (by simp [go_sem, f114, f112, kx, q1]) ⟨grown_trans hR.1 (grown_set _ _ _ _), ?_⟩ trivial
                          have hb := hR.2.set 1 (.int .i64 (m + pm))
                          simp only [List.setIfInBounds_toArray, List.set_cons_succ, List.set_cons_zero] at hb
                          rw [hd1, hd2 19 (by decide)]
                          exact hb
                      case rest =>
                        intro b w1 d hd hR hsz hdf hold hF
                        have hb := hR.2
                        rw [hd 19 (by decide), hd 21 (by decide)] at hb
                        have hg := hR.1
                        have hb11 : Below W.heap.size W w1 := hSu9.bel.grown hg hSu9.bel.size (fun j hj => by cases hj; exact hWB)
                        have hP11 : Pls w1 (some ⟨PB, PO, none⟩) (plG G' gn) := hP9.frame fun x hx hne => hg.block _ (hP9.lt hx hne) (by cases hx; simpa using hPB)
                        have e0 := hold 0 (by kernel_rfl)
                        have e1 := hold 1 (by kernel_rfl)
                        have e2 := hold 2 (by kernel_rfl)
                        have e3 := hold 3 (by kernel_rfl)
                        have e4 := hold 4 (by kernel_rfl)
                        have e5 := hold 5 (by kernel_rfl)
                        have e6 := hold 6 (by kernel_rfl)
                        have e7 := hold 7 (by kernel_rfl)
                        have e8 := hold 8 (by kernel_rfl)
                        have e9 := hold 9 (by kernel_rfl)
                        have e10 := hold 10 (by kernel_rfl)
                        have e11 := hold 11 (by kernel_rfl)
                        have e12 := hold 12 (by kernel_rfl)
                        have e13 := hold 13 (by kernel_rfl)
                        have e14 := hold 14 (by kernel_rfl)
                        have e15 := hold 15 (by kernel_rfl)
                        have e16 := hold 16 (by kernel_rfl)
                        have e17 := hold 17 (by kernel_rfl)
                        have e18 := hold 18 (by kernel_rfl)
                        have e19 := hold 19 (by kernel_rfl)
                        have e20 := hold 20 (by kernel_rfl)
                        have e21 := hold 21 (by kernel_rfl)
                        have e22 := hold 22 (by kernel_rfl)
                        have e23 := hold 23 (by kernel_rfl)
                        have e24 := hold 24 (by kernel_rfl)
                        have e25 := hold 25 (by kernel_rfl)
                        have e26 := hold 26 (by kernel_rfl)
                        have e27 := hold 27 (by kernel_rfl)
                        have e28 := hold 28 (by kernel_rfl)
                        have e29 := hold 29 (by kernel_rfl)
                        have e30 := hold 30 (by kernel_rfl)
                        have e31 := hold 31 (by kernel_rfl)
                        have e32 := hold 32 (by kernel_rfl)
                        have e33 := hold 33 (by kernel_rfl)
                        have e34 := hold 34 (by kernel_rfl)
                        have e35 := hold 35 (by kernel_rfl)
                        have e36 := hold 36 (by kernel_rfl)
                        have e37 := hold 37 (by kernel_rfl)
                        have e38 := hold 38 (by kernel_rfl)
                        have e39 := hold 39 (by kernel_rfl)
                        have e40 := hold 40 (by kernel_rfl)
                        have e41 := hold 41 (by kernel_rfl)
                        have e42 := hold 42 (by kernel_rfl)
                        have e43 := hold 43 (by kernel_rfl)
                        have e44 := hold 44 (by kernel_rfl)
                        have e45 := hold 45 (by kernel_rfl)
                        have e46 := hold 46 (by kernel_rfl)
                        have e47 := hold 47 (by kernel_rfl)
                        have e48 := hold 48 (by kernel_rfl)
                        have e49 := hold 49 (by kernel_rfl)
                        have e50 := hold 50 (by kernel_rfl)
                        have e51 := hold 51 (by kernel_rfl)
                        have e52 := hold 52 (by kernel_rfl)
                        have e53 := hold 53 (by kernel_rfl)
                        have e54 := hold 54 (by kernel_rfl)
                        have e55 := hold 55 (by kernel_rfl)
                        have e56 := hold 56 (by kernel_rfl)
                        have e57 := hold 57 (by kernel_rfl)
                        have e58 := hold 58 (by kernel_rfl)
                        have e59 := hold 59 (by kernel_rfl)
                        have e60 := hold 60 (by kernel_rfl)
                        have e61 := hold 61 (by kernel_rfl)
                        have e62 := hold 62 (by kernel_rfl)
                        have e63 := hold 63 (by kernel_rfl)
                        have e64 := hold 64 (by kernel_rfl)
                        have e65 := hold 65 (by kernel_rfl)
                        have e66 := hold 66 (by kernel_rfl)
                        have e67 := hold 67 (by kernel_rfl)
                        have e68 := hold 68 (by kernel_rfl)
                        have e69 := hold 69 (by kernel_rfl)
                        have e70 := hold 70 (by kernel_rfl)
                        have e71 := hold 71 (by kernel_rfl)
                        have e72 := hold 72 (by kernel_rfl)
                        have e73 := hold 73 (by kernel_rfl)
                        have e74 := hold 74 (by kernel_rfl)
                        have e75 := hold 75 (by kernel_rfl)
                        have e76 := hold 76 (by kernel_rfl)
                        have e77 := hold 77 (by kernel_rfl)
                        have e78 := hold 78 (by kernel_rfl)
                        have e79 := hold 79 (by kernel_rfl)
                        have e80 := hold 80 (by kernel_rfl)
                        have e81 := hold 81 (by kernel_rfl)
                        have e82 := hold 82 (by kernel_rfl)
                        have e83 := hold 83 (by kernel_rfl)
                        have e84 := hold 84 (by kernel_rfl)
                        have e85 := hold 85 (by kernel_rfl)
                        have e86 := hold 86 (by kernel_rfl)
                        have e87 := hold 87 (by kernel_rfl)
                        have e88 := hold 88 (by kernel_rfl)
                        have e89 := hold 89 (by kernel_rfl)
                        have e90 := hold 90 (by kernel_rfl)
                        have e91 := hold 91 (by kernel_rfl)
                        have e92 := hold 92 (by kernel_rfl)
                        have e93 := hold 93 (by kernel_rfl)
                        have e94 := hold 94 (by kernel_rfl)
                        have e115 := hold 115 (by kernel_rfl)
                        have e116 := hold 116 (by kernel_rfl)
                        have e117 := hold 117 (by kernel_rfl)
                        have e118 := hold 118 (by kernel_rfl)
                        have e119 := hold 119 (by kernel_rfl)
                        have e120 := hold 120 (by kernel_rfl)
                        have e121 := hold 121 (by kernel_rfl)
                        have e122 := hold 122 (by kernel_rfl)
                        have e123 := hold 123 (by kernel_rfl)
                        have e124 := hold 124 (by kernel_rfl)
                        have e125 := hold 125 (by kernel_rfl)
                        have e126 := hold 126 (by kernel_rfl)
                        have e127 := hold 127 (by kernel_rfl)
                        have e128 := hold 128 (by kernel_rfl)
                        have e129 := hold 129 (by kernel_rfl)
                        have e130 := hold 130 (by kernel_rfl)
                        have e131 := hold 131 (by kernel_rfl)
                        have e132 := hold 132 (by kernel_rfl)
                        have e133 := hold 133 (by kernel_rfl)
                        have e134 := hold 134 (by kernel_rfl)
                        have e135 := hold 135 (by kernel_rfl)
                        have e136 := hold 136 (by kernel_rfl)
                        have e137 := hold 137 (by kernel_rfl)
                        have e138 := hold 138 (by kernel_rfl)
                        have e139 := hold 139 (by kernel_rfl)
                        have e140 := hold 140 (by kernel_rfl)
                        have e141 := hold 141 (by kernel_rfl)
                        have e142 := hold 142 (by kernel_rfl)
                        have e143 := hold 143 (by kernel_rfl)
                        have e144 := hold 144 (by kernel_rfl)
                        have e145 := hold 145 (by kernel_rfl)
                        have e146 := hold 146 (by kernel_rfl)
                        have e147 := hold 147 (by kernel_rfl)
                        have e148 := hold 148 (by kernel_rfl)
                        have e149 := hold 149 (by kernel_rfl)
                        have e150 := hold 150 (by kernel_rfl)
                        have e151 := hold 151 (by kernel_rfl)
                        have e152 := hold 152 (by kernel_rfl)
                        have e153 := hold 153 (by kernel_rfl)
                        have e154 := hold 154 (by kernel_rfl)
                        have e155 := hold 155 (by kernel_rfl)
                        have e156 := hold 156 (by kernel_rfl)
                        have hB : b = _ := act_list b (show b.tmps.size = 157 from hsz) hdf
                        rw [hB]
                        simp only [List.range, List.range.loop, List.map_cons, List.map_nil, e0, e1, e2, e3, e4, e5, e6, e7, e8, e9, e10, e11, e12, e13, e14, e15, e16, e17, e18, e19, e20, e21, e22, e23, e24, e25, e26, e27, e28, e29, e30, e31, e32, e33, e34, e35, e36, e37, e38, e39, e40, e41, e42, e43, e44, e45, e46, e47, e48, e49, e50, e51, e52, e53, e54, e55, e56, e57, e58, e59, e60, e61, e62, e63, e64, e65, e66, e67, e68, e69, e70, e71, e72, e73, e74, e75, e76, e77, e78, e79, e80, e81, e82, e83, e84, e85, e86, e87, e88, e89, e90, e91, e92, e93, e94, e115, e116, e117, e118, e119, e120, e121, e122, e123, e124, e125, e126, e127, e128, e129, e130, e131, e132, e133, e134, e135, e136, e137, e138, e139, e140, e141, e142, e143, e144, e145, e146, e147, e148, e149, e150, e151, e152, e153, e154, e155, e156]
                        generalize sl b 95 = v95, sl b 96 = v96, sl b 97 = v97, sl b 98 = v98, sl b 99 = v99, sl b 100 = v100, sl b 101 = v101, sl b 102 = v102, sl b 103 = v103, sl b 104 = v104, sl b 105 = v105, sl b 106 = v106, sl b 107 = v107, sl b 108 = v108, sl b 109 = v109, sl b 110 = v110, sl b 111 = v111, sl b 112 = v112, sl b 113 = v113, sl b 114 = v114
                        simp only [sl, List.getElem?_toArray, List.getElem?_cons_succ, List.getElem?_cons_zero, Option.getD_some]
                        clear e0 e1 e2 e3 e4 e5 e6 e7 e8 e9 e10 e11 e12 e13 e14 e15 e16 e17 e18 e19 e20 e21 e22 e23 e24 e25 e26 e27 e28 e29 e30 e31 e32 e33 e34 e35 e36 e37 e38 e39 e40 e41 e42 e43 e44 e45 e46 e47 e48 e49 e50 e51 e52 e53 e54 e55 e56 e57 e58 e59 e60 e61 e62 e63 e64 e65 e66 e67 e68 e69 e70 e71 e72 e73 e74 e75 e76 e77 e78 e79 e80 e81 e82 e83 e84 e85 e86 e87 e88 e89 e90 e91 e92 e93 e94 e115 e116 e117 e118 e119 e120 e121 e122 e123 e124 e125 e126 e127 e128 e129 e130 e131 e132 e133 e134 e135 e136 e137 e138 e139 e140 e141 e142 e143 e144 e145 e146 e147 e148 e149 e150 e151 e152 e153 e154 e155 e156 hB hF hold hdf hsz hR hg hSu9 hP9 d2 d3'
                        go_wp2
                        go_roundw
                        case rel => exact ⟨mn + 1, by omega, by go_num, by rw [T3.out], ⟨hb11, by rw [T1.out, T2.out]; exact hb⟩, hP11⟩
                        case measure => simp [intOf]; omega
                    · have hq : (node.toList == S.toList) = false := by rw [hsq]; simp [heq]
                      simp only [if_neg heq] at y1 y2 y3
                      have T1 : Hid _ := (T1.out.trans (by rw [if_neg heq]; omega) : _ = c)
                      have T2 : Hid _ := (T2.out.trans (by rw [if_neg heq]; omega) : _ = m)
                      have T3 : Hid _ := (T3.out.trans (by rw [if_neg heq]; omega) : _ = ct)
                      clear heq hsq
                      go_upto_region 29 with fail
                      go_quiet (fail)
                      go_wp2
                      go_roundw
                      case rel => exact ⟨mn + 1, by omega, by go_num, by rw [T3.out], ⟨below_drewN hSu.bel _, by rw [T1.out, T2.out]; exact hSu.box⟩, hQ.out⟩
                      case measure => simp [intOf]; omega
                  · obtain rfl : mn = n1 := by omega
                    rw [List.take_of_length_le (by omega)] at hSu ⊢
                    have g18 : (gn : Int) < 12 := by omega
                    clear hP
                    go_wp2
                    go_roundw
                    case rel => exact ⟨gn + 1, by omega, by go_num, rfl, hSu⟩
                    case measure => simp [intOf]; omega
              · obtain rfl : gn = 12 := by omega
                rw [a1, a2] at hSu
                rw [a3]
                have ku := usedL _ L fp' E' G' (hLW.later hSu.bel) S hs
                obtain ⟨U, hU⟩ : ∃ U, gW (·.cpu) S G' = U := ⟨_, rfl⟩
                obtain ⟨M, hM⟩ : ∃ M, gW (·.mem) S G' = M := ⟨_, rfl⟩
                obtain ⟨C, hC⟩ : ∃ C, gW (fun _ => (1 : Int)) S G' = C := ⟨_, rfl⟩
                rw [hU] at u4 hSu ku
                rw [hM] at u5 hSu ku
                rw [hC] at ku
                rw [hC]
                have hev := eqVec
                have n0' : (jn : Int) < n0 := by omega
                have s0 := cell_below hSu.bel hat.1 (block_lt hat.1)
                have x0 := hat.2.1
                have x1 := hat.2.2.1
                clear hU hM hC a1 a2 a3 hp1 hp2 hp3 hcnt
                go_upto_region 33 with (go_at_call 27; refine ku.mono ?_; rintro e w8 ⟨rfl, hb8⟩)
                have hB8 : Box (w8.alloc (.cells #[.int .i64 U, .int .i64 M] 33)) B _ _ := (hSu.box.later hb8).up _
                have hV8 := Box.new w8 #[.int .i64 U, .int .i64 M] 33 rfl
                have hbl8 : Below W.heap.size W (w8.alloc (.cells #[.int .i64 U, .int .i64 M] 33)) := up (hSu.bel.trans (hb8.mono hSu.bel.size)) _
                have y0 := cell_below hbl8 x0 (block_lt x0)
                have y1 := cell_below hbl8 x1 (block_lt x1)
                have y1' : (w8.alloc (.cells #[.int .i64 U, .int .i64 M] 33)).cell? ⟨gN, jn * 6 + 1 + 1, none⟩ = some (.int .i64 mem) := y1
                generalize w8.alloc (.cells #[.int .i64 U, .int .i64 M] 33) = w9 at *
                generalize w8.heap.size = V at *
                obtain ⟨b0, b1⟩ := hB8.cells2
                obtain ⟨v0, v1⟩ := hV8.cells2
                have nU : ¬ cpu < U := by omega
                have nM : ¬ mem < M := by omega
                clear ku s0 x0 x1 hb8 hSu hat hN
                go_quiet (fail)
                go_wp2
                go_roundw
                case rel => exact ⟨jn + 1, by omega, by go_num, below_drewN hbl8 _⟩
                case measure => simp [intOf]; omega
          · have e1 : jn = n0 := by omega
            go_wp2
            go_roundw
            case rel => exact ⟨k + 1, fp', E', G', by omega, by go_num, hLW.later hby, hkeys, hfew, hfw, hbW.trans (hby.mono hbW.size)⟩
            case measure => simp [intOf]; omega
    · have hbel := hRm.bel
      clear hrow hRm
      by_cases h1 : k < len0
      · have h2 : ¬ (k : Int) < 60 := by omega
        go_wp2
        go_ret
        exact ⟨rfl, hbel⟩
      · go_wp2
        go_ret
        exact ⟨rfl, hbel⟩

end Go.Proofs.Ytcmgpbdciifdmaa
