/- Check of package line, where a record may be: checkPlaces, checkGang, Check of kinds 1, 2, 3, 7. -/
import Derived.Test.YtmldpihjndafaabDoorUQ
namespace Go.Proofs.YtmldpihjndafaabDoor
open Go.RowKit
set_option linter.unusedSimpArgs false
set_option linter.unusedVariables false

set_option maxRecDepth 100000 in
set_option maxHeartbeats 4000000 in
theorem checkPlaces_ok (a : Option Addr) (n cp : Nat) (qs : List PlaceB) (w : World) (h : Pls w a qs) (hn : qs.length = n) (h1 : 1 ≤ n) (h8 : n ≤ 8) (hcp : n ≤ cp) (ha : Apart qs) (he : ∀ p ∈ qs, placeE p = 0) :
    Calls Tryd.prog 42 #[.slice a n cp] w fun e w' => e = .returned (.int .i64 0) ∧ Below w.heap.size w w' := by
  subst hn
  have kt := fun W (hb : Below w.heap.size w W) => twice_ok a qs.length cp qs W (h.later hb) rfl (by omega) hcp ha
  clear ha
  go_enter Tryd.func42, Tryd.ntmps42
  go_upto_region 3 with fail
  go_wp2
  go_loopw [16] (fun i wr => ∃ k : Nat, k ≤ qs.length ∧ i = .int .i64 k ∧ Below w.heap.size w wr) (fun i _ => qs.length - (intOf i).toNat)
  case atStart => exact ⟨0, Nat.zero_le _, rfl, Below.refl _ _⟩
  case round =>
    obtain ⟨k, hk, rfl, hb⟩ := hrel
    by_cases hlt : k < qs.length
    · have hget : qs[k]? = some qs[k] := List.getElem?_eq_getElem hlt
      obtain ⟨p, hp⟩ : ∃ p, qs[k] = p := ⟨_, rfl⟩
      rw [hp] at hget
      obtain ⟨g, o, rfl, hc0, hc1, hc2, hc3, hc4⟩ := (h.later hb) k p hget
      have hz := he p (List.mem_of_getElem? hget)
      have kc := fun W => checkPlace_any p W
      rw [hz] at kc
      obtain ⟨pod, node, cpu, mem, al⟩ := p
      simp only at hc0 hc1 hc2 hc3 hc4 kc
      have q0 := Box.new wr #[.string pod, .string node, .int .i64 cpu, .int .i64 mem, .bool al] 56 rfl
      have hb0 := up (Below.refl wr.heap.size wr) (.cells #[.string pod, .string node, .int .i64 cpu, .int .i64 mem, .bool al] 56)
      have hbw0 := fin hb0 hb
      clear hget hp hz h he kt
      go_upto_region 6 with fail
      generalize wr.alloc (.cells #[.string pod, .string node, .int .i64 cpu, .int .i64 mem, .bool al] 56) = W at *
      obtain ⟨y0, y1, y2, y3, y4⟩ := q0.cells5'
      clear hc0 hc1 hc2 hc3 hc4
      go_wp2_with (go_at_call 61; refine (kc _).mono ?_; rintro e w2 ⟨rfl, hb2⟩)
      go_roundw
      case rel => exact ⟨k + 1, hlt, by go_num, fin hb2 hbw0⟩
      case measure => simp [intOf]; omega
    · have e1 : k = qs.length := by omega
      subst e1
      clear h he
      go_wp2_with (go_at_call 62; refine (kt _ hb).mono ?_; rintro e w2 ⟨rfl, hb2⟩)
      go_ret
      exact ⟨rfl, fin hb2 hb⟩

set_option maxRecDepth 100000 in
set_option maxHeartbeats 4000000 in
theorem checkGang_seven (g : Nat) (a : Option Addr) (n cp : Nat) (ps : List Nat) (w : World) (g1 : 1 ≤ g) (g2 : g ≤ 999999) (h : Nats w a ps) (hn : ps.length = n) (h0 : 0 < n) (hn1 : n ≤ 1000) (hr : riseB 0 ps = true) :
    Calls Tryd.prog 29 #[.agg #[.int .i64 7, .int .i64 g, .slice a n cp, .slice none 0 0, .string ⟨#[]⟩, .int .i64 0, .int .i64 0, .slice none 0 0, .slice none 0 0, .bool false]] w fun e w' => e = .returned (.int .i64 0) ∧ Below w.heap.size w w' := by
  have hb0 := up (Below.refl w.heap.size w) (.cells #[.int .i64 7, .int .i64 g, .slice a n cp, .slice none 0 0, .string ⟨#[]⟩, .int .i64 0, .int .i64 0, .slice none 0 0, .slice none 0 0, .bool false] 35)
  have kp := cPeers_ok a n cp ps _ (h.later hb0) hn h0 hn1 hr
  clear h hn hr
  go_enter Tryd.func29, Tryd.ntmps29
  go_wp2_with (first
    | (go_at_call 36; refine (peered_is 7 true (by decide) _).mono ?_; rintro e w1 ⟨rfl, rfl⟩)
    | (go_at_call 41; refine kp.mono ?_; rintro e w2 ⟨rfl, rfl⟩))
  go_ret
  exact ⟨rfl, hb0⟩

set_option maxRecDepth 100000 in
set_option maxHeartbeats 4000000 in
theorem checkGang_three (g : Nat) (a a2 : Option Addr) (n cp n2 c2 : Nat) (ps : List Nat) (qs : List PlaceB) (w : World) (g1 : 1 ≤ g) (g2 : g ≤ 999999) (h : Nats w a ps) (hn : ps.length = n) (h0 : 0 < n) (hn1 : n ≤ 1000) (hr : riseB 0 ps = true)
    (hq : Pls w a2 qs) (hqn : qs.length = n2) (hq1 : 1 ≤ n2) (hq8 : n2 ≤ 8) (hcp : n2 ≤ c2) (ha : Apart qs) (he : ∀ p ∈ qs, placeE p = 0) :
    Calls Tryd.prog 29 #[.agg #[.int .i64 3, .int .i64 g, .slice a n cp, .slice a2 n2 c2, .string ⟨#[]⟩, .int .i64 0, .int .i64 0, .slice none 0 0, .slice none 0 0, .bool false]] w fun e w' => e = .returned (.int .i64 0) ∧ Below w.heap.size w w' := by
  have hb0 := up (Below.refl w.heap.size w) (.cells #[.int .i64 3, .int .i64 g, .slice a n cp, .slice a2 n2 c2, .string ⟨#[]⟩, .int .i64 0, .int .i64 0, .slice none 0 0, .slice none 0 0, .bool false] 35)
  have kp := cPeers_ok a n cp ps _ (h.later hb0) hn h0 hn1 hr
  have kq := checkPlaces_ok a2 n2 c2 qs _ (hq.later hb0) hqn hq1 hq8 hcp ha he
  clear h hn hr hq hqn ha he
  go_enter Tryd.func29, Tryd.ntmps29
  go_wp2_with (first
    | (go_at_call 36; refine (peered_is 3 true (by decide) _).mono ?_; rintro e w1 ⟨rfl, rfl⟩)
    | (go_at_call 41; refine kp.mono ?_; rintro e w2 ⟨rfl, rfl⟩)
    | (go_at_call 42; refine kq.mono ?_; rintro e w3 ⟨rfl, hb3⟩))
  go_ret
  exact ⟨rfl, fin hb3 hb0⟩

set_option maxRecDepth 100000 in
set_option maxHeartbeats 4000000 in
theorem check_seven (g : Nat) (a : Option Addr) (n cp : Nat) (ps : List Nat) (w : World) (g1 : 1 ≤ g) (g2 : g ≤ 999999) (h : Nats w a ps) (hn : ps.length = n) (h0 : 0 < n) (hn1 : n ≤ 1000) (hr : riseB 0 ps = true) :
    Calls Tryd.prog 15 #[.agg #[.int .i64 7, .int .i64 g, .slice a n cp, .slice none 0 0, .string ⟨#[]⟩, .int .i64 0, .int .i64 0, .slice none 0 0, .slice none 0 0, .bool false]] w fun e w' => e = .returned (.int .i64 0) ∧ Below w.heap.size w w' := by
  have kg := fun W (hb : Below w.heap.size w W) => checkGang_seven g a n cp ps W g1 g2 (h.later hb) hn h0 hn1 hr
  clear h hn hr
  go_enter Tryd.func15, Tryd.ntmps15
  go_wp2_with (first
    | (go_at_call 25; refine (known_all _ _).mono ?_; rintro e w1 ⟨rfl, rfl⟩)
    | (go_at_call 26; refine (bare_seven _ _ _ _ _).mono ?_; rintro e w2 ⟨rfl, hb2⟩
       have q := (Box.new w #[.int .i64 7, .int .i64 g, .slice a n cp, .slice none 0 0, .string ⟨#[]⟩, .int .i64 0, .int .i64 0, .slice none 0 0, .slice none 0 0, .bool false] 35 rfl).later hb2
       have hW := fin hb2 (up (Below.refl w.heap.size w) _)
       obtain ⟨x0, x1, x2, x3, x4, x5, x6, x7, x8, x9⟩ := RecBox.cells q)
    | (go_at_call 29; refine (kg _ hW).mono ?_; rintro e w3 ⟨rfl, hb3⟩))
  go_ret
  exact ⟨rfl, fin hb3 hW⟩

set_option maxRecDepth 100000 in
set_option maxHeartbeats 4000000 in
theorem check_three (g : Nat) (a a2 : Option Addr) (n cp n2 c2 : Nat) (ps : List Nat) (qs : List PlaceB) (w : World) (g1 : 1 ≤ g) (g2 : g ≤ 999999) (h : Nats w a ps) (hn : ps.length = n) (h0 : 0 < n) (hn1 : n ≤ 1000) (hr : riseB 0 ps = true)
    (hq : Pls w a2 qs) (hqn : qs.length = n2) (hq1 : 1 ≤ n2) (hq8 : n2 ≤ 8) (hcp : n2 ≤ c2) (ha : Apart qs) (he : ∀ p ∈ qs, placeE p = 0) :
    Calls Tryd.prog 15 #[.agg #[.int .i64 3, .int .i64 g, .slice a n cp, .slice a2 n2 c2, .string ⟨#[]⟩, .int .i64 0, .int .i64 0, .slice none 0 0, .slice none 0 0, .bool false]] w fun e w' => e = .returned (.int .i64 0) ∧ Below w.heap.size w w' := by
  have kg := fun W (hb : Below w.heap.size w W) => checkGang_three g a a2 n cp n2 c2 ps qs W g1 g2 (h.later hb) hn h0 hn1 hr (hq.later hb) hqn hq1 hq8 hcp ha he
  clear h hn hr hq hqn ha he
  go_enter Tryd.func15, Tryd.ntmps15
  go_wp2_with (first
    | (go_at_call 25; refine (known_all _ _).mono ?_; rintro e w1 ⟨rfl, rfl⟩)
    | (go_at_call 26; refine (bare_three _ _ _ _ _ _ _ _).mono ?_; rintro e w2 ⟨rfl, hb2⟩
       have q := (Box.new w #[.int .i64 3, .int .i64 g, .slice a n cp, .slice a2 n2 c2, .string ⟨#[]⟩, .int .i64 0, .int .i64 0, .slice none 0 0, .slice none 0 0, .bool false] 35 rfl).later hb2
       have hW := fin hb2 (up (Below.refl w.heap.size w) _)
       obtain ⟨x0, x1, x2, x3, x4, x5, x6, x7, x8, x9⟩ := RecBox.cells q)
    | (go_at_call 29; refine (kg _ hW).mono ?_; rintro e w3 ⟨rfl, hb3⟩))
  go_ret
  exact ⟨rfl, fin hb3 hW⟩

set_option maxRecDepth 100000 in
set_option maxHeartbeats 4000000 in
theorem check_gone (nm : ByteArray) (w : World) (hn : isName nm = true) :
    Calls Tryd.prog 15 #[.agg #[.int .i64 2, .int .i64 0, .slice none 0 0, .slice none 0 0, .string nm, .int .i64 0, .int .i64 0, .slice none 0 0, .slice none 0 0, .bool false]] w fun e w' => e = .returned (.int .i64 0) ∧ Below w.heap.size w w' := by
  have kn := fun W => checkName_any nm W
  rw [hn] at kn
  clear hn
  go_enter Tryd.func15, Tryd.ntmps15
  go_wp2_with (first
    | (go_at_call 25; refine (known_all _ _).mono ?_; rintro e w1 ⟨rfl, rfl⟩)
    | (go_at_call 26; refine (bare_gone _ _).mono ?_; rintro e w2 ⟨rfl, hb2⟩
       have q := (Box.new w #[.int .i64 2, .int .i64 0, .slice none 0 0, .slice none 0 0, .string nm, .int .i64 0, .int .i64 0, .slice none 0 0, .slice none 0 0, .bool false] 35 rfl).later hb2
       have hW := fin hb2 (up (Below.refl w.heap.size w) _)
       obtain ⟨x0, x1, x2, x3, x4, x5, x6, x7, x8, x9⟩ := RecBox.cells q)
    | (go_at_call 28; refine (kn _).mono ?_; rintro e w3 ⟨rfl, hb3⟩))
  go_ret
  exact ⟨rfl, fin hb3 hW⟩

set_option maxRecDepth 100000 in
set_option maxHeartbeats 4000000 in
theorem check_node (nm : ByteArray) (cpu mem : Nat) (a1 a2 : Option Addr) (n1 c1 n2 c2 : Nat) (xs ys : List ByteArray) (cl : Bool) (w : World) (h1 : Strs w a1 xs) (h2 : Strs w a2 ys) (e1 : xs.length = n1) (e2 : ys.length = n2) (hE : nodeE nm cpu mem xs ys = 0) :
    Calls Tryd.prog 15 #[.agg #[.int .i64 1, .int .i64 0, .slice none 0 0, .slice none 0 0, .string nm, .int .i64 cpu, .int .i64 mem, .slice a1 n1 c1, .slice a2 n2 c2, .bool cl]] w fun e w' => e = .returned (.int .i64 0) ∧ Below w.heap.size w w' := by
  have kn := fun W (hb : Below w.heap.size w W) => node_any nm cpu mem a1 a2 n1 n2 c1 c2 cl xs ys W (h1.later hb) (h2.later hb) e1 e2
  rw [hE] at kn
  clear h1 h2 e1 e2 hE
  go_enter Tryd.func15, Tryd.ntmps15
  go_wp2_with (first
    | (go_at_call 25; refine (known_all _ _).mono ?_; rintro e w1 ⟨rfl, rfl⟩)
    | (go_at_call 26; refine (bare_node _ _ _ _ _ _ _ _ _ _ _).mono ?_; rintro e w2 ⟨rfl, hb2⟩
       have q := (Box.new w #[.int .i64 1, .int .i64 0, .slice none 0 0, .slice none 0 0, .string nm, .int .i64 cpu, .int .i64 mem, .slice a1 n1 c1, .slice a2 n2 c2, .bool cl] 35 rfl).later hb2
       have hW := fin hb2 (up (Below.refl w.heap.size w) _)
       obtain ⟨x0, x1, x2, x3, x4, x5, x6, x7, x8, x9⟩ := RecBox.cells q)
    | (go_at_call 27; refine (kn _ hW).mono ?_; rintro e w3 ⟨rfl, hb3⟩))
  go_ret
  exact ⟨rfl, fin hb3 hW⟩

end Go.Proofs.YtmldpihjndafaabDoor
