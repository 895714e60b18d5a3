/- Check of package line, where a record may be: names, peers, places. -/
import Derived.Test.YtmldpihjndafaabDoorUN
import Derived.Test.YtmldpihjndafaabDoorPO
import Derived.Test.YtmldpihjndafaabDoorTP
namespace Go.Proofs.YtmldpihjndafaabDoor
open Go.RowKit
set_option linter.unusedSimpArgs false
set_option linter.unusedVariables false

set_option maxRecDepth 100000 in
theorem checkName_any (s : ByteArray) (w : World) : Calls Tryd.prog 28 #[.string s] w fun e w' => e = .returned (.int .i64 (if isName s then 0 else 1)) ∧ Below w.heap.size w w' := by
  obtain ⟨b, hb⟩ : ∃ b, isName s = b := ⟨_, rfl⟩
  have kn := fun W => name_any s W
  rw [hb] at kn ⊢
  clear hb
  cases b
  all_goals
    go_enter Tryd.func28, Tryd.ntmps28
    go_wp2_with (go_at_call 40; refine (kn _).mono ?_; rintro e w1 ⟨rfl, hb1⟩)
    go_ret
    exact ⟨rfl, hb1⟩

/-- Numbers that rise, from 1 to 4. -/
def riseB : Nat → List Nat → Bool
  | _, [] => true
  | q, p :: l => decide (q < p ∧ p ≤ 4) && riseB p l
/-- The one ahead of place k, 0 ahead of the first. -/
def behind (ps : List Nat) : Nat → Nat
  | 0 => 0
  | k + 1 => ps.getD k 0

theorem drop_n (ps : List Nat) (k : Nat) (h : k < ps.length) : ps.drop k = ps.getD k 0 :: ps.drop (k + 1) := by
  rw [List.drop_eq_getElem_cons h]
  simp [List.getD, List.getElem?_eq_getElem h]

set_option maxRecDepth 100000 in
set_option maxHeartbeats 2000000 in
theorem cPeers_ok (a : Option Addr) (n cp : Nat) (ps : List Nat) (w : World) (h : Nats w a ps) (hn : ps.length = n) (h0 : 0 < n) (hn1 : n ≤ 1000) (hr : riseB 0 ps = true) :
    Calls Tryd.prog 41 #[.slice a n cp] w fun e w' => e = .returned (.bool true) ∧ w' = w := by
  subst hn
  go_enter Tryd.func41, Tryd.ntmps41
  go_wp2
  go_loopw [3, 8] (fun q i wr => ∃ k : Nat, k ≤ ps.length ∧ i = .int .i64 k ∧ q = .int .i64 (behind ps k) ∧ Hid (riseB (behind ps k) (ps.drop k) = true) ∧ wr = w) (fun _ i _ => ps.length - (intOf i).toNat)
  case atStart => exact ⟨0, Nat.zero_le _, rfl, rfl, hr, rfl⟩
  case round =>
    obtain ⟨k, hk, rfl, rfl, HS, rfl⟩ := hrel
    by_cases hlt : k < ps.length
    · obtain ⟨x, rfl, hc⟩ := h k hlt
      obtain ⟨p, hp⟩ : ∃ p, ps.getD k 0 = p := ⟨_, rfl⟩
      obtain ⟨q, hq⟩ : ∃ q, behind ps k = q := ⟨_, rfl⟩
      have hd := drop_n ps k hlt
      rw [hp] at hd hc
      have h1 := HS.out
      rw [hd, hq] at h1
      simp only [riseB, Bool.and_eq_true, decide_eq_true_eq] at h1
      obtain ⟨⟨h2, h3⟩, h4⟩ := h1
      have hp' : Hid (behind ps (k + 1) = p) := hp
      have h4' : Hid (riseB p (ps.drop (k + 1)) = true) := h4
      rw [hq]
      clear HS hd hp hq h4 h hr
      go_wp2
      go_roundw
      case rel => exact ⟨k + 1, hlt, by go_num, by rw [hp'.out], by rw [hp'.out]; exact h4', trivial⟩
      case measure => simp [intOf]; omega
    · have e1 : k = ps.length := by omega
      clear HS h hr
      go_wp2
      go_ret
      exact ⟨rfl, rfl⟩

/-- What is wrong with a place. -/
def placeE (p : PlaceB) : Int := if isName p.node then podE p.pod 1 p.cpu p.mem [] [] 1 else 1

set_option maxRecDepth 100000 in
set_option maxHeartbeats 2000000 in
theorem checkPlace_any (p : PlaceB) (w : World) : Calls Tryd.prog 61 #[.agg #[.string p.pod, .string p.node, .int .i64 p.cpu, .int .i64 p.mem, .bool p.alone]] w fun e w' => e = .returned (.int .i64 (placeE p)) ∧ Below w.heap.size w w' := by
  obtain ⟨pod, node, cpu, mem, al⟩ := p
  unfold placeE
  simp only
  have kn := fun W => checkName_any node W
  have kp := fun W => pod_any pod 1 cpu mem none none 0 0 0 0 false [] [] 1 W (strs_nil W) (strs_nil W) rfl rfl
  have q := Box.new w #[.string pod, .string node, .int .i64 cpu, .int .i64 mem, .bool al] 56 rfl
  have hb0 := up (Below.refl w.heap.size w) (.cells #[.string pod, .string node, .int .i64 cpu, .int .i64 mem, .bool al] 56)
  obtain ⟨b, hb⟩ : ∃ b, isName node = b := ⟨_, rfl⟩
  rw [hb] at kn ⊢
  generalize podE pod 1 cpu mem [] [] 1 = E at *
  clear hb
  cases b
  · go_enter Tryd.func61, Tryd.ntmps61
    go_wp2_with (go_at_call 28; refine (kn _).mono ?_; rintro e w1 ⟨rfl, hb1⟩)
    go_ret
    exact ⟨rfl, fin hb1 hb0⟩
  · go_enter Tryd.func61, Tryd.ntmps61
    go_wp2_with (first
      | (go_at_call 28; refine (kn _).mono ?_; rintro e w1 ⟨rfl, hb1⟩; have q1 := q.later hb1; obtain ⟨x0, x1, x2, x3, x4⟩ := q1.cells5')
      | (go_at_call 78; refine (kp _).mono ?_; rintro e w2 ⟨rfl, hb2⟩))
    go_ret
    exact ⟨rfl, fin hb2 (fin hb1 hb0)⟩

theorem PlaceAt.later {w w' : World} {g o : Nat} {p : PlaceB} (h : PlaceAt w g o p) (hb : Below w.heap.size w w') : PlaceAt w' g o p := h.on (block_lt h.1) hb
theorem Pls.later {w w' : World} {a : Option Addr} {qs : List PlaceB} (h : Pls w a qs) (hb : Below w.heap.size w w') : Pls w' a qs := fun i p hp => by
  obtain ⟨g, o, ha, hc⟩ := h i p hp
  exact ⟨g, o, ha, hc.later hb⟩

end Go.Proofs.YtmldpihjndafaabDoor
