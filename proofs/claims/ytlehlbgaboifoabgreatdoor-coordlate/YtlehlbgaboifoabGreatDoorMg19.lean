/- Check of package line, where a record may be: names, peers, places. -/
import Derived.Test.YtlehlbgaboifoabGreatDoorMg13
import Derived.Test.YtlehlbgaboifoabGreatDoorMg05
import Derived.Test.YtlehlbgaboifoabGreatDoorMg12
namespace Go.Proofs.YtlehlbgaboifoabGreatDoor
open Go.RowKit
set_option linter.unusedSimpArgs false
set_option linter.unusedVariables false

set_option maxRecDepth 100000 in
theorem checkName_any (s : ByteArray) (w : World) : Calls Tryz.prog 82 #[.string s] w fun e w' => e = .returned (.int .i64 (if isName s then 0 else 1)) ∧ Below w.heap.size w w' := by
  obtain ⟨b, hb⟩ : ∃ b, isName s = b := ⟨_, rfl⟩
  have kn := fun W => name_any s W
  rw [hb] at kn ⊢
  clear hb
  cases b
  all_goals
    go_enter Tryz.func82, Tryz.ntmps82
    go_wp2_with (go_at_call 119; refine (kn _).mono ?_; rintro e w1 ⟨rfl, hb1⟩)
    go_ret
    exact ⟨rfl, hb1⟩

/-- Numbers that rise, from 1 to 4. -/
def riseB : Nat → List Nat → Bool
  | _, [] => true
  | q, p :: l => decide (q < p ∧ p ≤ 4) && riseB p l
/-- The one ahead of place k, 0 ahead of the first. -/
def behind (ps : List Nat) : Nat → Nat
  | 0 => 0
  | k + 1 => ps.getD k 0

theorem drop_n (ps : List Nat) (k : Nat) (h : k < ps.length) : ps.drop k = ps.getD k 0 :: ps.drop (k + 1) := by
  rw [List.drop_eq_getElem_cons h]
  simp [List.getD, List.getElem?_eq_getElem h]

set_option maxRecDepth 100000 in
set_option maxHeartbeats 2000000 in
theorem cPeers_ok (a : Option Addr) (n cp : Nat) (ps : List Nat) (w : World) (h : Nats w a ps) (hn : ps.length = n) (h0 : 0 < n) (hn1 : n ≤ 1000) (hr : riseB 0 ps = true) :
    Calls Tryz.prog 120 #[.slice a n cp] w fun e w' => e = .returned (.bool true) ∧ w' = w := by
  subst hn
  go_enter Tryz.func120, Tryz.ntmps120
  go_wp2
  go_loopw [3, 8] (fun q i wr => ∃ k : Nat, k ≤ ps.length ∧ i = .int .i64 k ∧ q = .int .i64 (behind ps k) ∧ Hid (riseB (behind ps k) (ps.drop k) = true) ∧ wr = w) (fun _ i _ => ps.length - (intOf i).toNat)
  case atStart => exact ⟨0, Nat.zero_le _, rfl, rfl, hr, rfl⟩
  case round =>
    obtain ⟨k, hk, rfl, rfl, HS, rfl⟩ := hrel
    by_cases hlt : k < ps.length
    · obtain ⟨x, rfl, hc⟩ := h k hlt
      obtain ⟨p, hp⟩ : ∃ p, ps.getD k 0 = p := ⟨_, rfl⟩
      obtain ⟨q, hq⟩ : ∃ q, behind ps k = q := ⟨_, rfl⟩
      have hd := drop_n ps k hlt
      rw [hp] at hd hc
      have h1 := HS.out
      rw [hd, hq] at h1
      simp only [riseB, Bool.and_eq_true, decide_eq_true_eq] at h1
      obtain ⟨⟨h2, h3⟩, h4⟩ := h1
      have hp' : Hid (behind ps (k + 1) = p) := hp
      have h4' : Hid (riseB p (ps.drop (k + 1)) = true) := h4
      rw [hq]
      clear HS hd hp hq h4 h hr
      go_wp2
      go_roundw
      case rel => exact ⟨k + 1, hlt, by go_num, by rw [hp'.out], by rw [hp'.out]; exact h4', trivial⟩
      case measure => simp [intOf]; omega
    · have e1 : k = ps.length := by omega
      clear HS h hr
      go_wp2
      go_ret
      exact ⟨rfl, rfl⟩

/-- What is wrong with a place. -/
def placeE (p : PlaceB) : Int := if isName p.node then podE p.pod 1 p.cpu p.mem [] [] 1 else 1

set_option maxRecDepth 100000 in
set_option maxHeartbeats 2000000 in
theorem checkPlace_any (p : PlaceB) (w : World) : Calls Tryz.prog 155 #[.agg #[.string p.pod, .string p.node, .int .i64 p.cpu, .int .i64 p.mem, .bool p.alone]] w fun e w' => e = .returned (.int .i64 (placeE p)) ∧ Below w.heap.size w w' := by
  obtain ⟨pod, node, cpu, mem, al⟩ := p
  unfold placeE
  simp only
  have kn := fun W => checkName_any node W
  have kp := fun W => pod_any pod 1 cpu mem none none 0 0 0 0 false [] [] 1 W (strs_nil W) (strs_nil W) rfl rfl
  have q := Box.new w #[.string pod, .string node, .int .i64 cpu, .int .i64 mem, .bool al] 192 rfl
  have hb0 := up (Below.refl w.heap.size w) (.cells #[.string pod, .string node, .int .i64 cpu, .int .i64 mem, .bool al] 192)
  obtain ⟨b, hb⟩ : ∃ b, isName node = b := ⟨_, rfl⟩
  rw [hb] at kn ⊢
  generalize podE pod 1 cpu mem [] [] 1 = E at *
  clear hb
  cases b
  · go_enter Tryz.func155, Tryz.ntmps155
    go_wp2_with (go_at_call 82; refine (kn _).mono ?_; rintro e w1 ⟨rfl, hb1⟩)
    go_ret
    exact ⟨rfl, fin hb1 hb0⟩
  · go_enter Tryz.func155, Tryz.ntmps155
    go_wp2_with (first
      | (go_at_call 82; refine (kn _).mono ?_; rintro e w1 ⟨rfl, hb1⟩; have q1 := q.later hb1; obtain ⟨x0, x1, x2, x3, x4⟩ := q1.cells5')
      | (go_at_call 75; refine (kp _).mono ?_; rintro e w2 ⟨rfl, hb2⟩))
    go_ret
    exact ⟨rfl, fin hb2 (fin hb1 hb0)⟩

theorem lPlaceAt.later {w w' : World} {g o : Nat} {p : PlaceB} (h : lPlaceAt w g o p) (hb : Below w.heap.size w w') : lPlaceAt w' g o p := h.on (block_lt h.1) hb
theorem lPls.later {w w' : World} {a : Option Addr} {qs : List PlaceB} (h : lPls w a qs) (hb : Below w.heap.size w w') : lPls w' a qs := fun i p hp => by
  obtain ⟨g, o, ha, hc⟩ := h i p hp
  exact ⟨g, o, ha, hc.later hb⟩

end Go.Proofs.YtlehlbgaboifoabGreatDoor

/- Check of package line, where a record may be: twice, checkPlaces, checkGang, Check of kinds 1, 2, 3, 7. -/
namespace Go.Proofs.YtlehlbgaboifoabGreatDoor
open Go.RowKit
set_option linter.unusedSimpArgs false
set_option linter.unusedVariables false

theorem Nats.later {w w' : World} {a : Option Addr} {ps : List Nat} (h : Nats w a ps) (hb : Below w.heap.size w w') : Nats w' a ps := fun i hi => by
  obtain ⟨x, hx, hc⟩ := h i hi
  exact ⟨x, hx, cell_below hb hc (block_lt hc)⟩

theorem bytes_list_ne {a b : ByteArray} (h : a ≠ b) : (a.toList == b.toList) = false := bytes_ne h

/-- No two places of one pod. -/
def pApart (qs : List PlaceB) : Prop := ∀ (i j : Nat) (p q : PlaceB), j < i → qs[i]? = some p → qs[j]? = some q → p.pod ≠ q.pod

set_option maxRecDepth 100000 in
set_option maxHeartbeats 4000000 in
theorem twice_ok (a : Option Addr) (n cp : Nat) (qs : List PlaceB) (w : World) (h : lPls w a qs) (hn : qs.length = n) (hn1 : n ≤ 1000) (hcp : n ≤ cp) (ha : pApart qs) :
    Calls Tryz.prog 156 #[.slice a n cp] w fun e w' => e = .returned (.bool false) ∧ Below w.heap.size w w' := by
  subst hn
  go_enter Tryz.func156, Tryz.ntmps156
  go_wp2
  go_loopw [9] (fun i wr => ∃ k : Nat, k ≤ qs.length ∧ i = .int .i64 k ∧ Below w.heap.size w wr) (fun i _ => qs.length - (intOf i).toNat)
  case atStart => exact ⟨0, Nat.zero_le _, rfl, Below.refl _ _⟩
  case round =>
    obtain ⟨k, hk, rfl, hb⟩ := hrel
    by_cases hlt : k < qs.length
    · have hget : qs[k]? = some qs[k] := List.getElem?_eq_getElem hlt
      obtain ⟨p, hp⟩ : ∃ p, qs[k] = p := ⟨_, rfl⟩
      rw [hp] at hget
      have hr := h.later hb
      obtain ⟨g, o, rfl, hc0, hc1, hc2, hc3, hc4⟩ := hr k p hget
      have hap : ∀ j q, j < k → qs[j]? = some q → p.pod ≠ q.pod := fun j q hj hq => ha k j p q hj hget hq
      obtain ⟨pod, node, cpu, mem, al⟩ := p
      simp only at hc0 hc1 hc2 hc3 hc4 hap
      have q0 := Box.new wr #[.string pod, .string node, .int .i64 cpu, .int .i64 mem, .bool al] 192 rfl
      have hb0 := up (Below.refl wr.heap.size wr) (.cells #[.string pod, .string node, .int .i64 cpu, .int .i64 mem, .bool al] 192)
      have hbw0 := fin hb0 hb
      have hap' : Hid (∀ j q, j < k → qs[j]? = some q → pod ≠ q.pod) := hap
      have hr0 := hr.later hb0
      clear hget hp hap h hr ha
      go_upto_region 4 with fail
      generalize hRn : wr.heap.size = R at *
      generalize wr.alloc (.cells #[.string pod, .string node, .int .i64 cpu, .int .i64 mem, .bool al] 192) = W at *
      clear hc0 hc1 hc2 hc3 hc4
      have hkc : (k : Int) ≤ cp := by omega
      go_wp2
      go_loopw [18] (fun i wx => ∃ j : Nat, j ≤ k ∧ i = .int .i64 j ∧ Below W.heap.size W wx) (fun i _ => k - (intOf i).toNat)
      case atStart => exact ⟨0, Nat.zero_le _, rfl, Below.refl _ _⟩
      case round =>
        obtain ⟨j, hj, rfl, hbx⟩ := hrel
        have qx := q0.later hbx
        obtain ⟨y0, y1, y2, y3, y4⟩ := qx.cells5'
        by_cases hjk : j < k
        · obtain ⟨q, hq⟩ : ∃ q, qs[j]? = some q := ⟨_, List.getElem?_eq_getElem (by omega)⟩
          obtain ⟨g', o', he, hd0, hd1, hd2, hd3, hd4⟩ := (hr0.later hbx) j q hq
          injection he with he
          injection he with he1 he2
          subst he1 he2
          have hne := hap'.out j q hjk hq
          obtain ⟨pod2, node2, cpu2, mem2, al2⟩ := q
          simp only at hd0 hd1 hd2 hd3 hd4 hne
          have hbe := bytes_ne hne
          have q1 := Box.new wr #[.string pod2, .string node2, .int .i64 cpu2, .int .i64 mem2, .bool al2] 192 rfl
          have qq := qx.up (.cells #[.string pod2, .string node2, .int .i64 cpu2, .int .i64 mem2, .bool al2] 192)
          have hb2 := up hbx (.cells #[.string pod2, .string node2, .int .i64 cpu2, .int .i64 mem2, .bool al2] 192)
          clear hq hr0 hap'
          go_upto_region 7 with fail
          generalize wr.alloc (.cells #[.string pod2, .string node2, .int .i64 cpu2, .int .i64 mem2, .bool al2] 192) = W2 at *
          obtain ⟨z0, z1, z2, z3, z4⟩ := q1.cells5'
          obtain ⟨t0, t1, t2, t3, t4⟩ := qq.cells5'
          clear y0 y1 y2 y3 y4 hd0 hd1 hd2 hd3 hd4 hne
          go_wp2
          go_roundw
          case rel => exact ⟨j + 1, hjk, by go_num, hb2⟩
          case measure => simp [intOf]; omega
        · have hjk' : j = k := by omega
          subst hjk'
          clear hap' hr0
          go_wp2
          go_roundw
          case rel => exact ⟨j + 1, hlt, by go_num, fin hbx hbw0⟩
          case measure => simp [intOf]; omega
    · have e1 : k = qs.length := by omega
      subst e1
      clear h ha
      go_wp2
      go_ret
      exact ⟨rfl, hb⟩

end Go.Proofs.YtlehlbgaboifoabGreatDoor

/- Check of package line, where a record may be: checkPlaces, checkGang, Check of kinds 1, 2, 3, 7. -/
namespace Go.Proofs.YtlehlbgaboifoabGreatDoor
open Go.RowKit
set_option linter.unusedSimpArgs false
set_option linter.unusedVariables false

set_option maxRecDepth 100000 in
set_option maxHeartbeats 4000000 in
theorem checkPlaces_ok (a : Option Addr) (n cp : Nat) (qs : List PlaceB) (w : World) (h : lPls w a qs) (hn : qs.length = n) (h1 : 1 ≤ n) (h8 : n ≤ 8) (hcp : n ≤ cp) (ha : pApart qs) (he : ∀ p ∈ qs, placeE p = 0) :
    Calls Tryz.prog 121 #[.slice a n cp] w fun e w' => e = .returned (.int .i64 0) ∧ Below w.heap.size w w' := by
  subst hn
  have kt := fun W (hb : Below w.heap.size w W) => twice_ok a qs.length cp qs W (h.later hb) rfl (by omega) hcp ha
  clear ha
  go_enter Tryz.func121, Tryz.ntmps121
  go_upto_region 3 with fail
  go_wp2
  go_loopw [16] (fun i wr => ∃ k : Nat, k ≤ qs.length ∧ i = .int .i64 k ∧ Below w.heap.size w wr) (fun i _ => qs.length - (intOf i).toNat)
  case atStart => exact ⟨0, Nat.zero_le _, rfl, Below.refl _ _⟩
  case round =>
    obtain ⟨k, hk, rfl, hb⟩ := hrel
    by_cases hlt : k < qs.length
    · have hget : qs[k]? = some qs[k] := List.getElem?_eq_getElem hlt
      obtain ⟨p, hp⟩ : ∃ p, qs[k] = p := ⟨_, rfl⟩
      rw [hp] at hget
      obtain ⟨g, o, rfl, hc0, hc1, hc2, hc3, hc4⟩ := (h.later hb) k p hget
      have hz := he p (List.mem_of_getElem? hget)
      have kc := fun W => checkPlace_any p W
      rw [hz] at kc
      obtain ⟨pod, node, cpu, mem, al⟩ := p
      simp only at hc0 hc1 hc2 hc3 hc4 kc
      have q0 := Box.new wr #[.string pod, .string node, .int .i64 cpu, .int .i64 mem, .bool al] 192 rfl
      have hb0 := up (Below.refl wr.heap.size wr) (.cells #[.string pod, .string node, .int .i64 cpu, .int .i64 mem, .bool al] 192)
      have hbw0 := fin hb0 hb
      clear hget hp hz h he kt
      go_upto_region 6 with fail
      generalize wr.alloc (.cells #[.string pod, .string node, .int .i64 cpu, .int .i64 mem, .bool al] 192) = W at *
      obtain ⟨y0, y1, y2, y3, y4⟩ := q0.cells5'
      clear hc0 hc1 hc2 hc3 hc4
      go_wp2_with (go_at_call 155; refine (kc _).mono ?_; rintro e w2 ⟨rfl, hb2⟩)
      go_roundw
      case rel => exact ⟨k + 1, hlt, by go_num, fin hb2 hbw0⟩
      case measure => simp [intOf]; omega
    · have e1 : k = qs.length := by omega
      subst e1
      clear h he
      go_wp2_with (go_at_call 156; refine (kt _ hb).mono ?_; rintro e w2 ⟨rfl, hb2⟩)
      go_ret
      exact ⟨rfl, fin hb2 hb⟩

set_option maxRecDepth 100000 in
set_option maxHeartbeats 4000000 in
theorem checkGang_seven (g : Nat) (a : Option Addr) (n cp : Nat) (ps : List Nat) (w : World) (g1 : 1 ≤ g) (g2 : g ≤ 999999) (h : Nats w a ps) (hn : ps.length = n) (h0 : 0 < n) (hn1 : n ≤ 1000) (hr : riseB 0 ps = true) :
    Calls Tryz.prog 83 #[.agg #[.int .i64 7, .int .i64 g, .slice a n cp, .slice none 0 0, .string ⟨#[]⟩, .int .i64 0, .int .i64 0, .slice none 0 0, .slice none 0 0, .bool false]] w fun e w' => e = .returned (.int .i64 0) ∧ Below w.heap.size w w' := by
  have hb0 := up (Below.refl w.heap.size w) (.cells #[.int .i64 7, .int .i64 g, .slice a n cp, .slice none 0 0, .string ⟨#[]⟩, .int .i64 0, .int .i64 0, .slice none 0 0, .slice none 0 0, .bool false] 88)
  have kp := cPeers_ok a n cp ps _ (h.later hb0) hn h0 hn1 hr
  clear h hn hr
  go_enter Tryz.func83, Tryz.ntmps83
  go_wp2_with (first
    | (go_at_call 117; refine (peered_is 7 true (by decide) _).mono ?_; rintro e w1 ⟨rfl, rfl⟩)
    | (go_at_call 120; refine kp.mono ?_; rintro e w2 ⟨rfl, rfl⟩))
  go_ret
  exact ⟨rfl, hb0⟩

set_option maxRecDepth 100000 in
set_option maxHeartbeats 4000000 in
theorem checkGang_three (g : Nat) (a a2 : Option Addr) (n cp n2 c2 : Nat) (ps : List Nat) (qs : List PlaceB) (w : World) (g1 : 1 ≤ g) (g2 : g ≤ 999999) (h : Nats w a ps) (hn : ps.length = n) (h0 : 0 < n) (hn1 : n ≤ 1000) (hr : riseB 0 ps = true)
    (hq : lPls w a2 qs) (hqn : qs.length = n2) (hq1 : 1 ≤ n2) (hq8 : n2 ≤ 8) (hcp : n2 ≤ c2) (ha : pApart qs) (he : ∀ p ∈ qs, placeE p = 0) :
    Calls Tryz.prog 83 #[.agg #[.int .i64 3, .int .i64 g, .slice a n cp, .slice a2 n2 c2, .string ⟨#[]⟩, .int .i64 0, .int .i64 0, .slice none 0 0, .slice none 0 0, .bool false]] w fun e w' => e = .returned (.int .i64 0) ∧ Below w.heap.size w w' := by
  have hb0 := up (Below.refl w.heap.size w) (.cells #[.int .i64 3, .int .i64 g, .slice a n cp, .slice a2 n2 c2, .string ⟨#[]⟩, .int .i64 0, .int .i64 0, .slice none 0 0, .slice none 0 0, .bool false] 88)
  have kp := cPeers_ok a n cp ps _ (h.later hb0) hn h0 hn1 hr
  have kq := checkPlaces_ok a2 n2 c2 qs _ (hq.later hb0) hqn hq1 hq8 hcp ha he
  clear h hn hr hq hqn ha he
  go_enter Tryz.func83, Tryz.ntmps83
  go_wp2_with (first
    | (go_at_call 117; refine (peered_is 3 true (by decide) _).mono ?_; rintro e w1 ⟨rfl, rfl⟩)
    | (go_at_call 120; refine kp.mono ?_; rintro e w2 ⟨rfl, rfl⟩)
    | (go_at_call 121; refine kq.mono ?_; rintro e w3 ⟨rfl, hb3⟩))
  go_ret
  exact ⟨rfl, fin hb3 hb0⟩

set_option maxRecDepth 100000 in
set_option maxHeartbeats 4000000 in
theorem check_seven (g : Nat) (a : Option Addr) (n cp : Nat) (ps : List Nat) (w : World) (g1 : 1 ≤ g) (g2 : g ≤ 999999) (h : Nats w a ps) (hn : ps.length = n) (h0 : 0 < n) (hn1 : n ≤ 1000) (hr : riseB 0 ps = true) :
    Calls Tryz.prog 34 #[.agg #[.int .i64 7, .int .i64 g, .slice a n cp, .slice none 0 0, .string ⟨#[]⟩, .int .i64 0, .int .i64 0, .slice none 0 0, .slice none 0 0, .bool false]] w fun e w' => e = .returned (.int .i64 0) ∧ Below w.heap.size w w' := by
  have kg := fun W (hb : Below w.heap.size w W) => checkGang_seven g a n cp ps W g1 g2 (h.later hb) hn h0 hn1 hr
  clear h hn hr
  go_enter Tryz.func34, Tryz.ntmps34
  go_wp2_with (first
    | (go_at_call 79; refine (known_all _ _).mono ?_; rintro e w1 ⟨rfl, rfl⟩)
    | (go_at_call 80; refine (bare_seven _ _ _ _ _).mono ?_; rintro e w2 ⟨rfl, hb2⟩
       have q := (Box.new w #[.int .i64 7, .int .i64 g, .slice a n cp, .slice none 0 0, .string ⟨#[]⟩, .int .i64 0, .int .i64 0, .slice none 0 0, .slice none 0 0, .bool false] 88 rfl).later hb2
       have hW := fin hb2 (up (Below.refl w.heap.size w) _)
       obtain ⟨x0, x1, x2, x3, x4, x5, x6, x7, x8, x9⟩ := RecBox.cells q)
    | (go_at_call 83; refine (kg _ hW).mono ?_; rintro e w3 ⟨rfl, hb3⟩))
  go_ret
  exact ⟨rfl, fin hb3 hW⟩

set_option maxRecDepth 100000 in
set_option maxHeartbeats 4000000 in
theorem check_three (g : Nat) (a a2 : Option Addr) (n cp n2 c2 : Nat) (ps : List Nat) (qs : List PlaceB) (w : World) (g1 : 1 ≤ g) (g2 : g ≤ 999999) (h : Nats w a ps) (hn : ps.length = n) (h0 : 0 < n) (hn1 : n ≤ 1000) (hr : riseB 0 ps = true)
    (hq : lPls w a2 qs) (hqn : qs.length = n2) (hq1 : 1 ≤ n2) (hq8 : n2 ≤ 8) (hcp : n2 ≤ c2) (ha : pApart qs) (he : ∀ p ∈ qs, placeE p = 0) :
    Calls Tryz.prog 34 #[.agg #[.int .i64 3, .int .i64 g, .slice a n cp, .slice a2 n2 c2, .string ⟨#[]⟩, .int .i64 0, .int .i64 0, .slice none 0 0, .slice none 0 0, .bool false]] w fun e w' => e = .returned (.int .i64 0) ∧ Below w.heap.size w w' := by
  have kg := fun W (hb : Below w.heap.size w W) => checkGang_three g a a2 n cp n2 c2 ps qs W g1 g2 (h.later hb) hn h0 hn1 hr (hq.later hb) hqn hq1 hq8 hcp ha he
  clear h hn hr hq hqn ha he
  go_enter Tryz.func34, Tryz.ntmps34
  go_wp2_with (first
    | (go_at_call 79; refine (known_all _ _).mono ?_; rintro e w1 ⟨rfl, rfl⟩)
    | (go_at_call 80; refine (bare_three _ _ _ _ _ _ _ _).mono ?_; rintro e w2 ⟨rfl, hb2⟩
       have q := (Box.new w #[.int .i64 3, .int .i64 g, .slice a n cp, .slice a2 n2 c2, .string ⟨#[]⟩, .int .i64 0, .int .i64 0, .slice none 0 0, .slice none 0 0, .bool false] 88 rfl).later hb2
       have hW := fin hb2 (up (Below.refl w.heap.size w) _)
       obtain ⟨x0, x1, x2, x3, x4, x5, x6, x7, x8, x9⟩ := RecBox.cells q)
    | (go_at_call 83; refine (kg _ hW).mono ?_; rintro e w3 ⟨rfl, hb3⟩))
  go_ret
  exact ⟨rfl, fin hb3 hW⟩

set_option maxRecDepth 100000 in
set_option maxHeartbeats 4000000 in
theorem check_gone (nm : ByteArray) (w : World) (hn : isName nm = true) :
    Calls Tryz.prog 34 #[.agg #[.int .i64 2, .int .i64 0, .slice none 0 0, .slice none 0 0, .string nm, .int .i64 0, .int .i64 0, .slice none 0 0, .slice none 0 0, .bool false]] w fun e w' => e = .returned (.int .i64 0) ∧ Below w.heap.size w w' := by
  have kn := fun W => checkName_any nm W
  rw [hn] at kn
  clear hn
  go_enter Tryz.func34, Tryz.ntmps34
  go_wp2_with (first
    | (go_at_call 79; refine (known_all _ _).mono ?_; rintro e w1 ⟨rfl, rfl⟩)
    | (go_at_call 80; refine (bare_gone _ _).mono ?_; rintro e w2 ⟨rfl, hb2⟩
       have q := (Box.new w #[.int .i64 2, .int .i64 0, .slice none 0 0, .slice none 0 0, .string nm, .int .i64 0, .int .i64 0, .slice none 0 0, .slice none 0 0, .bool false] 88 rfl).later hb2
       have hW := fin hb2 (up (Below.refl w.heap.size w) _)
       obtain ⟨x0, x1, x2, x3, x4, x5, x6, x7, x8, x9⟩ := RecBox.cells q)
    | (go_at_call 82; refine (kn _).mono ?_; rintro e w3 ⟨rfl, hb3⟩))
  go_ret
  exact ⟨rfl, fin hb3 hW⟩

set_option maxRecDepth 100000 in
set_option maxHeartbeats 4000000 in
theorem check_node (nm : ByteArray) (cpu mem : Nat) (a1 a2 : Option Addr) (n1 c1 n2 c2 : Nat) (xs ys : List ByteArray) (cl : Bool) (w : World) (h1 : Strs w a1 xs) (h2 : Strs w a2 ys) (e1 : xs.length = n1) (e2 : ys.length = n2) (hE : nodeE nm cpu mem xs ys = 0) :
    Calls Tryz.prog 34 #[.agg #[.int .i64 1, .int .i64 0, .slice none 0 0, .slice none 0 0, .string nm, .int .i64 cpu, .int .i64 mem, .slice a1 n1 c1, .slice a2 n2 c2, .bool cl]] w fun e w' => e = .returned (.int .i64 0) ∧ Below w.heap.size w w' := by
  have kn := fun W (hb : Below w.heap.size w W) => node_any nm cpu mem a1 a2 n1 n2 c1 c2 cl xs ys W (h1.later hb) (h2.later hb) e1 e2
  rw [hE] at kn
  clear h1 h2 e1 e2 hE
  go_enter Tryz.func34, Tryz.ntmps34
  go_wp2_with (first
    | (go_at_call 79; refine (known_all _ _).mono ?_; rintro e w1 ⟨rfl, rfl⟩)
    | (go_at_call 80; refine (bare_node _ _ _ _ _ _ _ _ _ _ _).mono ?_; rintro e w2 ⟨rfl, hb2⟩
       have q := (Box.new w #[.int .i64 1, .int .i64 0, .slice none 0 0, .slice none 0 0, .string nm, .int .i64 cpu, .int .i64 mem, .slice a1 n1 c1, .slice a2 n2 c2, .bool cl] 88 rfl).later hb2
       have hW := fin hb2 (up (Below.refl w.heap.size w) _)
       obtain ⟨x0, x1, x2, x3, x4, x5, x6, x7, x8, x9⟩ := RecBox.cells q)
    | (go_at_call 81; refine (kn _ hW).mono ?_; rintro e w3 ⟨rfl, hb3⟩))
  go_ret
  exact ⟨rfl, fin hb3 hW⟩

end Go.Proofs.YtlehlbgaboifoabGreatDoor

/- Text of a record of any kind that may be. -/
namespace Go.Proofs.YtlehlbgaboifoabGreatDoor
open Go.RowKit
set_option linter.unusedSimpArgs false
set_option linter.unusedVariables false

/-- The bytes of a text. -/
abbrev vb (k : Nat) : List UInt8 := (verbB k).data.toList

set_option maxRecDepth 100000 in
set_option maxHeartbeats 4000000 in
theorem write_gone (nm : ByteArray) (w : World) (zn : nm.size ≤ 10000) (hT : TabB w.heap.size w) : Calls Tryz.prog 157 #[.agg #[.int .i64 2, .int .i64 0, .slice none 0 0, .slice none 0 0, .string nm, .int .i64 0, .int .i64 0, .slice none 0 0, .slice none 0 0, .bool false]] w fun e w' => e = .returned (.string ⟨(vb 2 ++ wordT 32 nm).toArray⟩) ∧ Below w.heap.size w w' := by
  go_enter Tryz.func157, Tryz.ntmps157
  go_upto_region 4 with (first
    | (go_at_call 79; refine (known_all _ _).mono ?_; rintro e w1 ⟨rfl, rfl⟩))
  have hs : (w.alloc (Obj.cells #[.int .i64 2, .int .i64 0, .slice none 0 0, .slice none 0 0, .string nm, .int .i64 0, .int .i64 0, .slice none 0 0, .slice none 0 0, .bool false] 88 (0, 0))).heap.size = w.heap.size + 1 := by simp
  have bR : Box ((w.alloc (Obj.cells #[.int .i64 2, .int .i64 0, .slice none 0 0, .slice none 0 0, .string nm, .int .i64 0, .int .i64 0, .slice none 0 0, .slice none 0 0, .bool false] 88 (0, 0))).alloc (Obj.cells #[.pointer none, .slice none 0 0] 229 (0, 0))) w.heap.size #[.int .i64 2, .int .i64 0, .slice none 0 0, .slice none 0 0, .string nm, .int .i64 0, .int .i64 0, .slice none 0 0, .slice none 0 0, .bool false] 88 := (Box.new w _ _ rfl).up _
  have bW : Box ((w.alloc (Obj.cells #[.int .i64 2, .int .i64 0, .slice none 0 0, .slice none 0 0, .string nm, .int .i64 0, .int .i64 0, .slice none 0 0, .slice none 0 0, .bool false] 88 (0, 0))).alloc (Obj.cells #[.pointer none, .slice none 0 0] 229 (0, 0))) (w.heap.size + 1) #[.pointer none, .slice none 0 0] 229 := Box.new _ _ _ hs
  have hB0 : Below w.heap.size w ((w.alloc (Obj.cells #[.int .i64 2, .int .i64 0, .slice none 0 0, .slice none 0 0, .string nm, .int .i64 0, .int .i64 0, .slice none 0 0, .slice none 0 0, .bool false] 88 (0, 0))).alloc (Obj.cells #[.pointer none, .slice none 0 0] 229 (0, 0))) := ((Below.refl _ _).alloc (Nat.le_refl _) _).alloc (by omega) _
  generalize (w.alloc (Obj.cells #[.int .i64 2, .int .i64 0, .slice none 0 0, .slice none 0 0, .string nm, .int .i64 0, .int .i64 0, .slice none 0 0, .slice none 0 0, .bool false] 88 (0, 0))).alloc (Obj.cells #[.pointer none, .slice none 0 0] 229 (0, 0)) = W at *
  have hI : InW (w.heap.size + 1) (w.heap.size + 1) [] W := .inl ⟨Nat.le_refl _, .slice none 0 0, bW, (by simp [World.ownsRow]), by simp [Value.ownBlock]⟩
  have hI' : InW (w.heap.size + 1) (w.heap.size + 1) [] W.drew := hI
  have hl4 : ([] : List Value).length + (verbB 2).size ≤ 1000000000 := by decide +kernel
  have hW1 := bW.lt
  have hW2 : w.heap.size + 1 ≤ W.drew.heap.size := Nat.le_of_lt hW1
  have c0 : W.drew.cell? ⟨w.heap.size, 0, none⟩ = some (.int .i64 2) := bR.cell rfl
  have c0' : W.cell? ⟨w.heap.size, 0, none⟩ = some (.int .i64 2) := bR.cell rfl
  have hT1 : TabB w.heap.size W.drew := hT.on hB0.drew
  clear hT
  go_cut [] (fun wx => AtW (w.heap.size + 1) (w.heap.size + 1) (Lib.byteCells (vb 2)) wx ∧ Below (w.heap.size + 1) W.drew wx)
  case first =>
    go_region_with (first
      | (go_at_call 189; refine (verbOf_any 2 (by decide) (by decide) _).mono ?_; rintro e w1 ⟨rfl, rfl⟩)
      | (go_at_call 188; refine (writeString_any (w.heap.size + 1) (w.heap.size + 1) [] _ _ hI' hl4 hW2).mono ?_; rintro e w2 ⟨rfl, h2, hb2, hf2⟩))
    all_goals
      go_wp2
      go_meet
      case rel => exact ⟨h2, hb2⟩
  case rest =>
    obtain ⟨hA, hbA⟩ := hcut
    have f0 := cell_below hbA c0 (Nat.lt_succ_self _)
    have f4 := cell_below hbA (a := ⟨w.heap.size, 4, none⟩) (v := .string nm) (bR.cell rfl) (Nat.lt_succ_self _)
    have hsA : w.heap.size + 1 ≤ wc.heap.size := Nat.le_trans hW2 hbA.size
    have hTA : TabB (w.heap.size + 1) wc := (hT1.up (Nat.le_succ _)).on hbA
    have hBt : Below w.heap.size w wc := (hB0.drew).trans (hbA.mono (Nat.le_succ _))
    have lv : (vb 2).length ≤ 10 := by decide
    have kF := word_l (w.heap.size + 1) (w.heap.size + 1) (vb 2) 32 32 nm wc (by decide) (by decide) hA (by omega) hsA
    clear hTA hT1
    go_wp2_with (first
      | (go_at_call 191; refine kF.mono ?_; rintro e w3 ⟨rfl, hF, hbF, _⟩)
      | (go_at_call 195; refine (string_at (w.heap.size + 1) (w.heap.size + 1) _ _ hF (by simp [vb, wordT, numT, nodeT])).mono ?_; rintro e w6 ⟨rfl, hb6⟩))
    refine bodyPost_ret (by simp [results, Tryz.results157, go_sem]) rfl ⟨rfl, (hB0.drew).trans (((hbA.trans hbF).trans hb6).mono (Nat.le_succ _))⟩

theorem text_gone (nm : ByteArray) (w : World) (zn : nm.size ≤ 10000) (hT : TabB w.heap.size w) : Calls Tryz.prog 122 #[.agg #[.int .i64 2, .int .i64 0, .slice none 0 0, .slice none 0 0, .string nm, .int .i64 0, .int .i64 0, .slice none 0 0, .slice none 0 0, .bool false]] w fun e w' => e = .returned (.string ⟨(vb 2 ++ wordT 32 nm).toArray⟩) ∧ Below w.heap.size w w' := by
  have hb0 : Below w.heap.size w (w.alloc (Obj.cells #[.int .i64 2, .int .i64 0, .slice none 0 0, .slice none 0 0, .string nm, .int .i64 0, .int .i64 0, .slice none 0 0, .slice none 0 0, .bool false] 88 (0, 0))) := up (Below.refl _ _) _
  have q := Box.new w #[.int .i64 2, .int .i64 0, .slice none 0 0, .slice none 0 0, .string nm, .int .i64 0, .int .i64 0, .slice none 0 0, .slice none 0 0, .bool false] 88 rfl
  obtain ⟨x0, x1, x2, x3, x4, x5, x6, x7, x8, x9⟩ := RecBox.cells q
  have kw := write_gone nm (w.alloc (Obj.cells #[.int .i64 2, .int .i64 0, .slice none 0 0, .slice none 0 0, .string nm, .int .i64 0, .int .i64 0, .slice none 0 0, .slice none 0 0, .bool false] 88 (0, 0))) zn ((hT.on hb0).up hb0.size)
  clear hT
  go_enter Tryz.func122, Tryz.ntmps122
  go_wp2_with (go_at_call 157; refine kw.mono ?_; rintro e w1 ⟨rfl, hb1⟩)
  go_ret
  exact ⟨rfl, fin hb1 hb0⟩

set_option maxRecDepth 100000 in
set_option maxHeartbeats 4000000 in
theorem write_node (nm : ByteArray) (cpu mem : Nat) (a1 a2 : Option Addr) (n1 c1 n2 c2 : Nat) (xs ys : List ByteArray) (cl : Bool) (w : World) (h1 : Strs w a1 xs) (h2 : Strs w a2 ys) (e1 : xs.length = n1) (e2 : ys.length = n2) (l1 : Low w.heap.size a1) (l2 : Low w.heap.size a2) (z1 : ∀ s ∈ xs, s.size ≤ 10000) (z2 : ∀ s ∈ ys, s.size ≤ 10000) (zn : nm.size ≤ 10000) (zc : cpu ≤ 9223372036854775807) (zm : mem ≤ 9223372036854775807) (hT : TabB w.heap.size w) : Calls Tryz.prog 157 #[.agg #[.int .i64 1, .int .i64 0, .slice none 0 0, .slice none 0 0, .string nm, .int .i64 cpu, .int .i64 mem, .slice a1 n1 c1, .slice a2 n2 c2, .bool cl]] w fun e w' => e = .returned (.string ⟨(vb 1 ++ nodeT ⟨nm, cpu, mem, xs, ys, cl⟩).toArray⟩) ∧ Below w.heap.size w w' := by
  have e1' : Hid (xs.length = n1) := e1
  have e2' : Hid (ys.length = n2) := e2
  clear e1 e2
  go_enter Tryz.func157, Tryz.ntmps157
  go_upto_region 4 with (first
    | (go_at_call 79; refine (known_all _ _).mono ?_; rintro e w1 ⟨rfl, rfl⟩))
  have hs : (w.alloc (Obj.cells #[.int .i64 1, .int .i64 0, .slice none 0 0, .slice none 0 0, .string nm, .int .i64 cpu, .int .i64 mem, .slice a1 n1 c1, .slice a2 n2 c2, .bool cl] 88 (0, 0))).heap.size = w.heap.size + 1 := by simp
  have bR : Box ((w.alloc (Obj.cells #[.int .i64 1, .int .i64 0, .slice none 0 0, .slice none 0 0, .string nm, .int .i64 cpu, .int .i64 mem, .slice a1 n1 c1, .slice a2 n2 c2, .bool cl] 88 (0, 0))).alloc (Obj.cells #[.pointer none, .slice none 0 0] 229 (0, 0))) w.heap.size #[.int .i64 1, .int .i64 0, .slice none 0 0, .slice none 0 0, .string nm, .int .i64 cpu, .int .i64 mem, .slice a1 n1 c1, .slice a2 n2 c2, .bool cl] 88 := (Box.new w _ _ rfl).up _
  have bW : Box ((w.alloc (Obj.cells #[.int .i64 1, .int .i64 0, .slice none 0 0, .slice none 0 0, .string nm, .int .i64 cpu, .int .i64 mem, .slice a1 n1 c1, .slice a2 n2 c2, .bool cl] 88 (0, 0))).alloc (Obj.cells #[.pointer none, .slice none 0 0] 229 (0, 0))) (w.heap.size + 1) #[.pointer none, .slice none 0 0] 229 := Box.new _ _ _ hs
  have hB0 : Below w.heap.size w ((w.alloc (Obj.cells #[.int .i64 1, .int .i64 0, .slice none 0 0, .slice none 0 0, .string nm, .int .i64 cpu, .int .i64 mem, .slice a1 n1 c1, .slice a2 n2 c2, .bool cl] 88 (0, 0))).alloc (Obj.cells #[.pointer none, .slice none 0 0] 229 (0, 0))) := ((Below.refl _ _).alloc (Nat.le_refl _) _).alloc (by omega) _
  generalize (w.alloc (Obj.cells #[.int .i64 1, .int .i64 0, .slice none 0 0, .slice none 0 0, .string nm, .int .i64 cpu, .int .i64 mem, .slice a1 n1 c1, .slice a2 n2 c2, .bool cl] 88 (0, 0))).alloc (Obj.cells #[.pointer none, .slice none 0 0] 229 (0, 0)) = W at *
  have hI : InW (w.heap.size + 1) (w.heap.size + 1) [] W := .inl ⟨Nat.le_refl _, .slice none 0 0, bW, (by simp [World.ownsRow]), by simp [Value.ownBlock]⟩
  have hI' : InW (w.heap.size + 1) (w.heap.size + 1) [] W.drew := hI
  have hl4 : ([] : List Value).length + (verbB 1).size ≤ 1000000000 := by decide +kernel
  have hW1 := bW.lt
  have hW2 : w.heap.size + 1 ≤ W.drew.heap.size := Nat.le_of_lt hW1
  have c0 : W.drew.cell? ⟨w.heap.size, 0, none⟩ = some (.int .i64 1) := bR.cell rfl
  have c0' : W.cell? ⟨w.heap.size, 0, none⟩ = some (.int .i64 1) := bR.cell rfl
  have hT1 : TabB w.heap.size W.drew := hT.on hB0.drew
  clear hT
  go_cut [] (fun wx => AtW (w.heap.size + 1) (w.heap.size + 1) (Lib.byteCells (vb 1)) wx ∧ Below (w.heap.size + 1) W.drew wx)
  case first =>
    go_region_with (first
      | (go_at_call 189; refine (verbOf_any 1 (by decide) (by decide) _).mono ?_; rintro e w1 ⟨rfl, rfl⟩)
      | (go_at_call 188; refine (writeString_any (w.heap.size + 1) (w.heap.size + 1) [] _ _ hI' hl4 hW2).mono ?_; rintro e w2 ⟨rfl, h2, hb2, hf2⟩))
    all_goals
      go_wp2
      go_meet
      case rel => exact ⟨h2, hb2⟩
  case rest =>
    obtain ⟨hA, hbA⟩ := hcut
    have f0 := cell_below hbA c0 (Nat.lt_succ_self _)
    have f4 := cell_below hbA (a := ⟨w.heap.size, 4, none⟩) (v := .string nm) (bR.cell rfl) (Nat.lt_succ_self _)
    have f5 := cell_below hbA (a := ⟨w.heap.size, 5, none⟩) (v := .int .i64 cpu) (bR.cell rfl) (Nat.lt_succ_self _)
    have f6 := cell_below hbA (a := ⟨w.heap.size, 6, none⟩) (v := .int .i64 mem) (bR.cell rfl) (Nat.lt_succ_self _)
    have f7 := cell_below hbA (a := ⟨w.heap.size, 7, none⟩) (v := .slice a1 n1 c1) (bR.cell rfl) (Nat.lt_succ_self _)
    have f8 := cell_below hbA (a := ⟨w.heap.size, 8, none⟩) (v := .slice a2 n2 c2) (bR.cell rfl) (Nat.lt_succ_self _)
    have f9 := cell_below hbA (a := ⟨w.heap.size, 9, none⟩) (v := .bool cl) (bR.cell rfl) (Nat.lt_succ_self _)
    have hsA : w.heap.size + 1 ≤ wc.heap.size := Nat.le_trans hW2 hbA.size
    have hTA : TabB (w.heap.size + 1) wc := (hT1.up (Nat.le_succ _)).on hbA
    have hBt : Below w.heap.size w wc := (hB0.drew).trans (hbA.mono (Nat.le_succ _))
    have kF := node_l (w.heap.size + 1) (w.heap.size + 1) (vb 1) nm cpu mem a1 a2 n1 c1 n2 c2 xs ys cl wc hA (h1.on l1 hBt) (h2.on l2 hBt) e1'.out e2'.out (fun x hx => Nat.lt_succ_of_lt (l1 x hx)) (fun x hx => Nat.lt_succ_of_lt (l2 x hx)) z1 z2 zn zc zm (by decide) hsA hTA
    clear hTA hT1
    go_wp2_with (first
      | (go_at_call 190; refine kF.mono ?_; rintro e w3 ⟨rfl, hF, hbF, _⟩)
      | (go_at_call 195; refine (string_at (w.heap.size + 1) (w.heap.size + 1) _ _ hF (by simp [vb, wordT, numT, nodeT])).mono ?_; rintro e w6 ⟨rfl, hb6⟩))
    refine bodyPost_ret (by simp [results, Tryz.results157, go_sem]) rfl ⟨rfl, (hB0.drew).trans (((hbA.trans hbF).trans hb6).mono (Nat.le_succ _))⟩

theorem text_node (nm : ByteArray) (cpu mem : Nat) (a1 a2 : Option Addr) (n1 c1 n2 c2 : Nat) (xs ys : List ByteArray) (cl : Bool) (w : World) (h1 : Strs w a1 xs) (h2 : Strs w a2 ys) (e1 : xs.length = n1) (e2 : ys.length = n2) (l1 : Low w.heap.size a1) (l2 : Low w.heap.size a2) (z1 : ∀ s ∈ xs, s.size ≤ 10000) (z2 : ∀ s ∈ ys, s.size ≤ 10000) (zn : nm.size ≤ 10000) (zc : cpu ≤ 9223372036854775807) (zm : mem ≤ 9223372036854775807) (hT : TabB w.heap.size w) : Calls Tryz.prog 122 #[.agg #[.int .i64 1, .int .i64 0, .slice none 0 0, .slice none 0 0, .string nm, .int .i64 cpu, .int .i64 mem, .slice a1 n1 c1, .slice a2 n2 c2, .bool cl]] w fun e w' => e = .returned (.string ⟨(vb 1 ++ nodeT ⟨nm, cpu, mem, xs, ys, cl⟩).toArray⟩) ∧ Below w.heap.size w w' := by
  have hb0 : Below w.heap.size w (w.alloc (Obj.cells #[.int .i64 1, .int .i64 0, .slice none 0 0, .slice none 0 0, .string nm, .int .i64 cpu, .int .i64 mem, .slice a1 n1 c1, .slice a2 n2 c2, .bool cl] 88 (0, 0))) := up (Below.refl _ _) _
  have q := Box.new w #[.int .i64 1, .int .i64 0, .slice none 0 0, .slice none 0 0, .string nm, .int .i64 cpu, .int .i64 mem, .slice a1 n1 c1, .slice a2 n2 c2, .bool cl] 88 rfl
  obtain ⟨x0, x1, x2, x3, x4, x5, x6, x7, x8, x9⟩ := RecBox.cells q
  have kw := write_node nm cpu mem a1 a2 n1 c1 n2 c2 xs ys cl (w.alloc (Obj.cells #[.int .i64 1, .int .i64 0, .slice none 0 0, .slice none 0 0, .string nm, .int .i64 cpu, .int .i64 mem, .slice a1 n1 c1, .slice a2 n2 c2, .bool cl] 88 (0, 0))) (h1.on l1 hb0) (h2.on l2 hb0) e1 e2 (fun x hx => Nat.lt_of_lt_of_le (l1 x hx) hb0.size) (fun x hx => Nat.lt_of_lt_of_le (l2 x hx) hb0.size) z1 z2 zn zc zm ((hT.on hb0).up hb0.size)
  clear hT
  go_enter Tryz.func122, Tryz.ntmps122
  go_wp2_with (go_at_call 157; refine kw.mono ?_; rintro e w1 ⟨rfl, hb1⟩)
  go_ret
  exact ⟨rfl, fin hb1 hb0⟩

set_option maxRecDepth 100000 in
set_option maxHeartbeats 4000000 in
theorem write_seven (g : Nat) (a : Option Addr) (n cp : Nat) (ps : List Nat) (w : World) (g2 : g ≤ 999999) (h : Nats w a ps) (en : ps.length = n) (hn1 : n ≤ 1000) (la : Low w.heap.size a) (zp : ∀ x ∈ ps, x ≤ 9223372036854775807) (hT : TabB w.heap.size w) : Calls Tryz.prog 157 #[.agg #[.int .i64 7, .int .i64 g, .slice a n cp, .slice none 0 0, .string ⟨#[]⟩, .int .i64 0, .int .i64 0, .slice none 0 0, .slice none 0 0, .bool false]] w fun e w' => e = .returned (.string ⟨(vb 7 ++ (numT 32 g ++ peersT 32 ps)).toArray⟩) ∧ Below w.heap.size w w' := by
  have en' : Hid (ps.length = n) := en
  clear en
  go_enter Tryz.func157, Tryz.ntmps157
  go_upto_region 4 with (first
    | (go_at_call 79; refine (known_all _ _).mono ?_; rintro e w1 ⟨rfl, rfl⟩))
  have hs : (w.alloc (Obj.cells #[.int .i64 7, .int .i64 g, .slice a n cp, .slice none 0 0, .string ⟨#[]⟩, .int .i64 0, .int .i64 0, .slice none 0 0, .slice none 0 0, .bool false] 88 (0, 0))).heap.size = w.heap.size + 1 := by simp
  have bR : Box ((w.alloc (Obj.cells #[.int .i64 7, .int .i64 g, .slice a n cp, .slice none 0 0, .string ⟨#[]⟩, .int .i64 0, .int .i64 0, .slice none 0 0, .slice none 0 0, .bool false] 88 (0, 0))).alloc (Obj.cells #[.pointer none, .slice none 0 0] 229 (0, 0))) w.heap.size #[.int .i64 7, .int .i64 g, .slice a n cp, .slice none 0 0, .string ⟨#[]⟩, .int .i64 0, .int .i64 0, .slice none 0 0, .slice none 0 0, .bool false] 88 := (Box.new w _ _ rfl).up _
  have bW : Box ((w.alloc (Obj.cells #[.int .i64 7, .int .i64 g, .slice a n cp, .slice none 0 0, .string ⟨#[]⟩, .int .i64 0, .int .i64 0, .slice none 0 0, .slice none 0 0, .bool false] 88 (0, 0))).alloc (Obj.cells #[.pointer none, .slice none 0 0] 229 (0, 0))) (w.heap.size + 1) #[.pointer none, .slice none 0 0] 229 := Box.new _ _ _ hs
  have hB0 : Below w.heap.size w ((w.alloc (Obj.cells #[.int .i64 7, .int .i64 g, .slice a n cp, .slice none 0 0, .string ⟨#[]⟩, .int .i64 0, .int .i64 0, .slice none 0 0, .slice none 0 0, .bool false] 88 (0, 0))).alloc (Obj.cells #[.pointer none, .slice none 0 0] 229 (0, 0))) := ((Below.refl _ _).alloc (Nat.le_refl _) _).alloc (by omega) _
  generalize (w.alloc (Obj.cells #[.int .i64 7, .int .i64 g, .slice a n cp, .slice none 0 0, .string ⟨#[]⟩, .int .i64 0, .int .i64 0, .slice none 0 0, .slice none 0 0, .bool false] 88 (0, 0))).alloc (Obj.cells #[.pointer none, .slice none 0 0] 229 (0, 0)) = W at *
  have hI : InW (w.heap.size + 1) (w.heap.size + 1) [] W := .inl ⟨Nat.le_refl _, .slice none 0 0, bW, (by simp [World.ownsRow]), by simp [Value.ownBlock]⟩
  have hI' : InW (w.heap.size + 1) (w.heap.size + 1) [] W.drew := hI
  have hl4 : ([] : List Value).length + (verbB 7).size ≤ 1000000000 := by decide +kernel
  have hW1 := bW.lt
  have hW2 : w.heap.size + 1 ≤ W.drew.heap.size := Nat.le_of_lt hW1
  have c0 : W.drew.cell? ⟨w.heap.size, 0, none⟩ = some (.int .i64 7) := bR.cell rfl
  have c0' : W.cell? ⟨w.heap.size, 0, none⟩ = some (.int .i64 7) := bR.cell rfl
  have hT1 : TabB w.heap.size W.drew := hT.on hB0.drew
  clear hT
  go_cut [] (fun wx => AtW (w.heap.size + 1) (w.heap.size + 1) (Lib.byteCells (vb 7)) wx ∧ Below (w.heap.size + 1) W.drew wx)
  case first =>
    go_region_with (first
      | (go_at_call 189; refine (verbOf_any 7 (by decide) (by decide) _).mono ?_; rintro e w1 ⟨rfl, rfl⟩)
      | (go_at_call 188; refine (writeString_any (w.heap.size + 1) (w.heap.size + 1) [] _ _ hI' hl4 hW2).mono ?_; rintro e w2 ⟨rfl, h2, hb2, hf2⟩))
    all_goals
      go_wp2
      go_meet
      case rel => exact ⟨h2, hb2⟩
  case rest =>
    obtain ⟨hA, hbA⟩ := hcut
    have f0 := cell_below hbA c0 (Nat.lt_succ_self _)
    have f1 := cell_below hbA (a := ⟨w.heap.size, 1, none⟩) (v := .int .i64 g) (bR.cell rfl) (Nat.lt_succ_self _)
    have f2 := cell_below hbA (a := ⟨w.heap.size, 2, none⟩) (v := .slice a n cp) (bR.cell rfl) (Nat.lt_succ_self _)
    have f3 := cell_below hbA (a := ⟨w.heap.size, 3, none⟩) (v := .slice none 0 0) (bR.cell rfl) (Nat.lt_succ_self _)
    have hsA : w.heap.size + 1 ≤ wc.heap.size := Nat.le_trans hW2 hbA.size
    have hTA : TabB (w.heap.size + 1) wc := (hT1.up (Nat.le_succ _)).on hbA
    have hBt : Below w.heap.size w wc := (hB0.drew).trans (hbA.mono (Nat.le_succ _))
    have lv : (vb 7).length ≤ 10 := by decide
    have lg := numT_len 32 g (by omega)
    have lp := peersT_len ps 32 zp
    have e' := en'.out
    have k1 := number_l (w.heap.size + 1) (w.heap.size + 1) (vb 7) 32 32 g wc (by omega) (by decide) (by decide) hA (by omega) hsA hTA
    have k2 := fun W (hAW : AtW (w.heap.size + 1) (w.heap.size + 1) (Lib.byteCells (vb 7 ++ numT 32 g)) W) (hbW : Below (w.heap.size + 1) wc W) => wPeers_l (w.heap.size + 1) (w.heap.size + 1) (vb 7 ++ numT 32 g) a n cp ps W hAW ((h.on la hBt).on (fun x hx => Nat.lt_succ_of_lt (la x hx)) hbW) en'.out hn1 (fun x hx => Nat.lt_succ_of_lt (la x hx)) zp (by rw [List.length_append]; omega) (Nat.le_trans hsA hbW.size) (hTA.on hbW)
    clear e'
    clear hTA hT1
    go_wp2_with (first
      | (go_at_call 192; refine k1.mono ?_; rintro e w3 ⟨rfl, h3, hb3, _⟩; have g2 := cell_below hb3 f2 (Nat.lt_succ_self _); have g3 := cell_below hb3 f3 (Nat.lt_succ_self _))
      | (go_at_call 193; refine (k2 _ h3 hb3).mono ?_; rintro e w4 ⟨rfl, hF, hb4, _⟩; simp only [List.append_assoc] at hF; have hbF := hb3.trans hb4; have i3 := cell_below hb4 g3 (Nat.lt_succ_self _))
      | (go_at_call 194; refine (wPlaces_none _ _).mono ?_; rintro e w5 ⟨rfl, rfl⟩)
      | (go_at_call 195; refine (string_at (w.heap.size + 1) (w.heap.size + 1) _ _ hF (by simp [vb, wordT, numT, nodeT])).mono ?_; rintro e w6 ⟨rfl, hb6⟩))
    refine bodyPost_ret (by simp [results, Tryz.results157, go_sem]) rfl ⟨rfl, (hB0.drew).trans (((hbA.trans hbF).trans hb6).mono (Nat.le_succ _))⟩

theorem text_seven (g : Nat) (a : Option Addr) (n cp : Nat) (ps : List Nat) (w : World) (g2 : g ≤ 999999) (h : Nats w a ps) (en : ps.length = n) (hn1 : n ≤ 1000) (la : Low w.heap.size a) (zp : ∀ x ∈ ps, x ≤ 9223372036854775807) (hT : TabB w.heap.size w) : Calls Tryz.prog 122 #[.agg #[.int .i64 7, .int .i64 g, .slice a n cp, .slice none 0 0, .string ⟨#[]⟩, .int .i64 0, .int .i64 0, .slice none 0 0, .slice none 0 0, .bool false]] w fun e w' => e = .returned (.string ⟨(vb 7 ++ (numT 32 g ++ peersT 32 ps)).toArray⟩) ∧ Below w.heap.size w w' := by
  have hb0 : Below w.heap.size w (w.alloc (Obj.cells #[.int .i64 7, .int .i64 g, .slice a n cp, .slice none 0 0, .string ⟨#[]⟩, .int .i64 0, .int .i64 0, .slice none 0 0, .slice none 0 0, .bool false] 88 (0, 0))) := up (Below.refl _ _) _
  have q := Box.new w #[.int .i64 7, .int .i64 g, .slice a n cp, .slice none 0 0, .string ⟨#[]⟩, .int .i64 0, .int .i64 0, .slice none 0 0, .slice none 0 0, .bool false] 88 rfl
  obtain ⟨x0, x1, x2, x3, x4, x5, x6, x7, x8, x9⟩ := RecBox.cells q
  have kw := write_seven g a n cp ps (w.alloc (Obj.cells #[.int .i64 7, .int .i64 g, .slice a n cp, .slice none 0 0, .string ⟨#[]⟩, .int .i64 0, .int .i64 0, .slice none 0 0, .slice none 0 0, .bool false] 88 (0, 0))) g2 (h.on la hb0) en hn1 (fun x hx => Nat.lt_of_lt_of_le (la x hx) hb0.size) zp ((hT.on hb0).up hb0.size)
  clear hT
  go_enter Tryz.func122, Tryz.ntmps122
  go_wp2_with (go_at_call 157; refine kw.mono ?_; rintro e w1 ⟨rfl, hb1⟩)
  go_ret
  exact ⟨rfl, fin hb1 hb0⟩

set_option maxRecDepth 100000 in
set_option maxHeartbeats 4000000 in
theorem write_three (g : Nat) (a a2 : Option Addr) (n cp n2 c2 : Nat) (ps : List Nat) (qs : List PlaceB) (w : World) (g2 : g ≤ 999999) (h : Nats w a ps) (en : ps.length = n) (hn1 : n ≤ 1000) (la : Low w.heap.size a) (zp : ∀ x ∈ ps, x ≤ 9223372036854775807) (hq : lPls w a2 qs) (eq : qs.length = n2) (hq1 : n2 ≤ 1000) (lq : Low w.heap.size a2) (zq : ∀ p ∈ qs, FewP p) (hT : TabB w.heap.size w) : Calls Tryz.prog 157 #[.agg #[.int .i64 3, .int .i64 g, .slice a n cp, .slice a2 n2 c2, .string ⟨#[]⟩, .int .i64 0, .int .i64 0, .slice none 0 0, .slice none 0 0, .bool false]] w fun e w' => e = .returned (.string ⟨(vb 3 ++ (numT 32 g ++ (peersT 32 ps ++ placesT qs))).toArray⟩) ∧ Below w.heap.size w w' := by
  have en' : Hid (ps.length = n) := en
  have eq' : Hid (qs.length = n2) := eq
  clear en eq
  go_enter Tryz.func157, Tryz.ntmps157
  go_upto_region 4 with (first
    | (go_at_call 79; refine (known_all _ _).mono ?_; rintro e w1 ⟨rfl, rfl⟩))
  have hs : (w.alloc (Obj.cells #[.int .i64 3, .int .i64 g, .slice a n cp, .slice a2 n2 c2, .string ⟨#[]⟩, .int .i64 0, .int .i64 0, .slice none 0 0, .slice none 0 0, .bool false] 88 (0, 0))).heap.size = w.heap.size + 1 := by simp
  have bR : Box ((w.alloc (Obj.cells #[.int .i64 3, .int .i64 g, .slice a n cp, .slice a2 n2 c2, .string ⟨#[]⟩, .int .i64 0, .int .i64 0, .slice none 0 0, .slice none 0 0, .bool false] 88 (0, 0))).alloc (Obj.cells #[.pointer none, .slice none 0 0] 229 (0, 0))) w.heap.size #[.int .i64 3, .int .i64 g, .slice a n cp, .slice a2 n2 c2, .string ⟨#[]⟩, .int .i64 0, .int .i64 0, .slice none 0 0, .slice none 0 0, .bool false] 88 := (Box.new w _ _ rfl).up _
  have bW : Box ((w.alloc (Obj.cells #[.int .i64 3, .int .i64 g, .slice a n cp, .slice a2 n2 c2, .string ⟨#[]⟩, .int .i64 0, .int .i64 0, .slice none 0 0, .slice none 0 0, .bool false] 88 (0, 0))).alloc (Obj.cells #[.pointer none, .slice none 0 0] 229 (0, 0))) (w.heap.size + 1) #[.pointer none, .slice none 0 0] 229 := Box.new _ _ _ hs
  have hB0 : Below w.heap.size w ((w.alloc (Obj.cells #[.int .i64 3, .int .i64 g, .slice a n cp, .slice a2 n2 c2, .string ⟨#[]⟩, .int .i64 0, .int .i64 0, .slice none 0 0, .slice none 0 0, .bool false] 88 (0, 0))).alloc (Obj.cells #[.pointer none, .slice none 0 0] 229 (0, 0))) := ((Below.refl _ _).alloc (Nat.le_refl _) _).alloc (by omega) _
  generalize (w.alloc (Obj.cells #[.int .i64 3, .int .i64 g, .slice a n cp, .slice a2 n2 c2, .string ⟨#[]⟩, .int .i64 0, .int .i64 0, .slice none 0 0, .slice none 0 0, .bool false] 88 (0, 0))).alloc (Obj.cells #[.pointer none, .slice none 0 0] 229 (0, 0)) = W at *
  have hI : InW (w.heap.size + 1) (w.heap.size + 1) [] W := .inl ⟨Nat.le_refl _, .slice none 0 0, bW, (by simp [World.ownsRow]), by simp [Value.ownBlock]⟩
  have hI' : InW (w.heap.size + 1) (w.heap.size + 1) [] W.drew := hI
  have hl4 : ([] : List Value).length + (verbB 3).size ≤ 1000000000 := by decide +kernel
  have hW1 := bW.lt
  have hW2 : w.heap.size + 1 ≤ W.drew.heap.size := Nat.le_of_lt hW1
  have c0 : W.drew.cell? ⟨w.heap.size, 0, none⟩ = some (.int .i64 3) := bR.cell rfl
  have c0' : W.cell? ⟨w.heap.size, 0, none⟩ = some (.int .i64 3) := bR.cell rfl
  have hT1 : TabB w.heap.size W.drew := hT.on hB0.drew
  clear hT
  go_cut [] (fun wx => AtW (w.heap.size + 1) (w.heap.size + 1) (Lib.byteCells (vb 3)) wx ∧ Below (w.heap.size + 1) W.drew wx)
  case first =>
    go_region_with (first
      | (go_at_call 189; refine (verbOf_any 3 (by decide) (by decide) _).mono ?_; rintro e w1 ⟨rfl, rfl⟩)
      | (go_at_call 188; refine (writeString_any (w.heap.size + 1) (w.heap.size + 1) [] _ _ hI' hl4 hW2).mono ?_; rintro e w2 ⟨rfl, h2, hb2, hf2⟩))
    all_goals
      go_wp2
      go_meet
      case rel => exact ⟨h2, hb2⟩
  case rest =>
    obtain ⟨hA, hbA⟩ := hcut
    have f0 := cell_below hbA c0 (Nat.lt_succ_self _)
    have f1 := cell_below hbA (a := ⟨w.heap.size, 1, none⟩) (v := .int .i64 g) (bR.cell rfl) (Nat.lt_succ_self _)
    have f2 := cell_below hbA (a := ⟨w.heap.size, 2, none⟩) (v := .slice a n cp) (bR.cell rfl) (Nat.lt_succ_self _)
    have f3 := cell_below hbA (a := ⟨w.heap.size, 3, none⟩) (v := .slice a2 n2 c2) (bR.cell rfl) (Nat.lt_succ_self _)
    have hsA : w.heap.size + 1 ≤ wc.heap.size := Nat.le_trans hW2 hbA.size
    have hTA : TabB (w.heap.size + 1) wc := (hT1.up (Nat.le_succ _)).on hbA
    have hBt : Below w.heap.size w wc := (hB0.drew).trans (hbA.mono (Nat.le_succ _))
    have lv : (vb 3).length ≤ 10 := by decide
    have lg := numT_len 32 g (by omega)
    have lp := peersT_len ps 32 zp
    have e' := en'.out
    have k1 := number_l (w.heap.size + 1) (w.heap.size + 1) (vb 3) 32 32 g wc (by omega) (by decide) (by decide) hA (by omega) hsA hTA
    have k2 := fun W (hAW : AtW (w.heap.size + 1) (w.heap.size + 1) (Lib.byteCells (vb 3 ++ numT 32 g)) W) (hbW : Below (w.heap.size + 1) wc W) => wPeers_l (w.heap.size + 1) (w.heap.size + 1) (vb 3 ++ numT 32 g) a n cp ps W hAW ((h.on la hBt).on (fun x hx => Nat.lt_succ_of_lt (la x hx)) hbW) en'.out hn1 (fun x hx => Nat.lt_succ_of_lt (la x hx)) zp (by rw [List.length_append]; omega) (Nat.le_trans hsA hbW.size) (hTA.on hbW)
    have k3 := fun W (hAW : AtW (w.heap.size + 1) (w.heap.size + 1) (Lib.byteCells (vb 3 ++ numT 32 g ++ peersT 32 ps)) W) (hbW : Below (w.heap.size + 1) wc W) => places_l (w.heap.size + 1) (w.heap.size + 1) (vb 3 ++ numT 32 g ++ peersT 32 ps) a2 n2 c2 qs W hAW ((hq.on lq hBt).on (fun x hx => Nat.lt_succ_of_lt (lq x hx)) hbW) eq'.out hq1 (fun x hx => Nat.lt_succ_of_lt (lq x hx)) zq (by rw [List.length_append, List.length_append]; omega) (Nat.le_trans hsA hbW.size) (hTA.on hbW)
    clear e'
    clear hTA hT1
    go_wp2_with (first
      | (go_at_call 192; refine k1.mono ?_; rintro e w3 ⟨rfl, h3, hb3, _⟩; have g2 := cell_below hb3 f2 (Nat.lt_succ_self _); have g3 := cell_below hb3 f3 (Nat.lt_succ_self _))
      | (go_at_call 193; refine (k2 _ h3 hb3).mono ?_; rintro e w4 ⟨rfl, h4, hb4, _⟩; have hb34 := hb3.trans hb4; have i3 := cell_below hb4 g3 (Nat.lt_succ_self _))
      | (go_at_call 194; refine (k3 _ h4 hb34).mono ?_; rintro e w5 ⟨rfl, hF, hb5, _⟩; simp only [List.append_assoc] at hF; have hbF := hb34.trans hb5)
      | (go_at_call 195; refine (string_at (w.heap.size + 1) (w.heap.size + 1) _ _ hF (by simp [vb, wordT, numT, nodeT])).mono ?_; rintro e w6 ⟨rfl, hb6⟩))
    refine bodyPost_ret (by simp [results, Tryz.results157, go_sem]) rfl ⟨rfl, (hB0.drew).trans (((hbA.trans hbF).trans hb6).mono (Nat.le_succ _))⟩

theorem text_three (g : Nat) (a a2 : Option Addr) (n cp n2 c2 : Nat) (ps : List Nat) (qs : List PlaceB) (w : World) (g2 : g ≤ 999999) (h : Nats w a ps) (en : ps.length = n) (hn1 : n ≤ 1000) (la : Low w.heap.size a) (zp : ∀ x ∈ ps, x ≤ 9223372036854775807) (hq : lPls w a2 qs) (eq : qs.length = n2) (hq1 : n2 ≤ 1000) (lq : Low w.heap.size a2) (zq : ∀ p ∈ qs, FewP p) (hT : TabB w.heap.size w) : Calls Tryz.prog 122 #[.agg #[.int .i64 3, .int .i64 g, .slice a n cp, .slice a2 n2 c2, .string ⟨#[]⟩, .int .i64 0, .int .i64 0, .slice none 0 0, .slice none 0 0, .bool false]] w fun e w' => e = .returned (.string ⟨(vb 3 ++ (numT 32 g ++ (peersT 32 ps ++ placesT qs))).toArray⟩) ∧ Below w.heap.size w w' := by
  have hb0 : Below w.heap.size w (w.alloc (Obj.cells #[.int .i64 3, .int .i64 g, .slice a n cp, .slice a2 n2 c2, .string ⟨#[]⟩, .int .i64 0, .int .i64 0, .slice none 0 0, .slice none 0 0, .bool false] 88 (0, 0))) := up (Below.refl _ _) _
  have q := Box.new w #[.int .i64 3, .int .i64 g, .slice a n cp, .slice a2 n2 c2, .string ⟨#[]⟩, .int .i64 0, .int .i64 0, .slice none 0 0, .slice none 0 0, .bool false] 88 rfl
  obtain ⟨x0, x1, x2, x3, x4, x5, x6, x7, x8, x9⟩ := RecBox.cells q
  have kw := write_three g a a2 n cp n2 c2 ps qs (w.alloc (Obj.cells #[.int .i64 3, .int .i64 g, .slice a n cp, .slice a2 n2 c2, .string ⟨#[]⟩, .int .i64 0, .int .i64 0, .slice none 0 0, .slice none 0 0, .bool false] 88 (0, 0))) g2 (h.on la hb0) en hn1 (fun x hx => Nat.lt_of_lt_of_le (la x hx) hb0.size) zp (hq.on lq hb0) eq hq1 (fun x hx => Nat.lt_of_lt_of_le (lq x hx) hb0.size) zq ((hT.on hb0).up hb0.size)
  clear hT
  go_enter Tryz.func122, Tryz.ntmps122
  go_wp2_with (go_at_call 157; refine kw.mono ?_; rintro e w1 ⟨rfl, hb1⟩)
  go_ret
  exact ⟨rfl, fin hb1 hb0⟩

end Go.Proofs.YtlehlbgaboifoabGreatDoor
