/- Rows of texts: when one is a set of marks, whether all of one are among another one; the contracts of Set and All of package mark. -/
import Derived.Test.YtpgchnppinbpkaaDoorR
import Derived.Maps.OwnSet
import Derived.OwnWalk
namespace Go.Proofs.YtpgchnppinbpkaaDoor
open Go.RowKit Go.Maps

/-- A row of texts in memory. -/
def Strs (w : World) (a : Option Addr) (ss : List ByteArray) : Prop :=
  ss.length ≤ 1000 ∧ ∀ i, i < ss.length → ∃ x, a = some x ∧ w.cell? (x.add i) = some (.string (ss.getD i ByteArray.empty))

theorem Strs.later {w w1 : World} {a : Option Addr} {ss : List ByteArray} (h : Strs w a ss) (hb : Below w.heap.size w w1) : Strs w1 a ss :=
  ⟨h.1, fun i hi => by
    obtain ⟨x, hx, hc⟩ := h.2 i hi
    exact ⟨x, hx, cell_below hb hc (block_lt hc)⟩⟩

/-- Names in rising order, behind the one ahead of them. -/
def rises : Option ByteArray → List ByteArray → Bool
  | _, [] => true
  | none, s :: l => isName s && rises (some s) l
  | some q, s :: l => isName s && Op.bytesLess q.toList s.toList && rises (some s) l
/-- Is it a set of marks? -/
def setB (l : List ByteArray) : Bool := decide (l.length ≤ 4) && rises none l
/-- Is a text among these? -/
def inB (l : List ByteArray) (s : ByteArray) : Bool := l.any fun t => t.toList == s.toList
/-- Are all of the one among the other ones? -/
def allB (of l : List ByteArray) : Bool := of.all (inB l)

/-- The one ahead of place k. -/
def ahead (l : List ByteArray) : Nat → Option ByteArray
  | 0 => none
  | k + 1 => some (l.getD k ByteArray.empty)

theorem drop_at (l : List ByteArray) (k : Nat) (h : k < l.length) : l.drop k = l.getD k ByteArray.empty :: l.drop (k + 1) := by
  rw [List.drop_eq_getElem_cons h]
  simp [List.getD, List.getElem?_eq_getElem h]

set_option maxRecDepth 100000 in
set_option maxHeartbeats 2000000 in
theorem set_any (a : Option Addr) (cap : Nat) (ss : List ByteArray) (w : World) (hS : Strs w a ss) :
    Calls Tryd.prog 75 #[.slice a ss.length cap] w fun e w' => e = .returned (.bool (setB ss)) ∧ Below w.heap.size w w' := by
  have hl := hS.1
  by_cases h4 : (4 : Int) < ss.length
  · have e : setB ss = false := by unfold setB; have : decide (ss.length ≤ 4) = false := by simp; omega
                                   rw [this]; rfl
    rw [e]
    clear e
    go_enter Tryd.func75, Tryd.ntmps75
    go_wp2
    go_ret
    exact ⟨rfl, Below.refl _ _⟩
  · have e : setB ss = rises none ss := by unfold setB; have : decide (ss.length ≤ 4) = true := by simp; omega
                                           rw [this]; rfl
    obtain ⟨A, hA⟩ : ∃ A, setB ss = A := ⟨_, rfl⟩
    have hA0 : Hid (rises (ahead ss 0) (ss.drop 0) = A) := by show _ = _; rw [← hA, e]; rfl
    rw [hA]
    clear e hA
    go_enter Tryd.func75, Tryd.ntmps75
    go_wp2
    go_loopw [10] (fun i wr => ∃ k : Nat, k ≤ ss.length ∧ i = .int .i64 k ∧ Hid (rises (ahead ss k) (ss.drop k) = A) ∧ Below w.heap.size w wr) (fun i _ => ss.length - (intOf i).toNat)
    case atStart => exact ⟨0, Nat.zero_le _, rfl, hA0, Below.refl _ _⟩
    case round =>
      obtain ⟨k, hk, rfl, HS, hbw⟩ := hrel
      clear hA0
      have hSr := hS.later hbw
      by_cases hlt : k < ss.length
      · obtain ⟨x, rfl, hcs⟩ := hSr.2 k hlt
        obtain ⟨s, hs⟩ : ∃ s, ss.getD k ByteArray.empty = s := ⟨_, rfl⟩
        have hd := drop_at ss k hlt
        rw [hs] at hd hcs
        have HN : ahead ss (k + 1) = some s := by rw [← hs]; rfl
        obtain ⟨b, hb⟩ : ∃ b, isName s = b := ⟨_, rfl⟩
        have n1 := fun W => name_any s W
        rw [hb] at n1
        rcases (by cases k with | zero => exact .inl rfl | succ m => exact .inr ⟨m, rfl⟩ : k = 0 ∨ ∃ m, k = m + 1) with rfl | ⟨m, rfl⟩
        · have H2 : Hid (A = (b && rises (some s) (ss.drop 1))) := by
            show _ = _
            rw [← HS.out, hd]; simp [ahead, rises, hb]
          have hcs0 : wr.cell? x = some (.string s) := by simpa [Addr.add] using hcs
          clear HS hd hb hS hSr hs hcs
          cases b
          · go_wp2_with (go_at_call 74; refine (n1 _).mono ?_; rintro e w8 ⟨rfl, hb8⟩)
            go_ret
            exact ⟨by rw [H2.out]; rfl, hbw.trans (hb8.mono hbw.size)⟩
          · go_wp2_with (go_at_call 74; refine (n1 _).mono ?_; rintro e w8 ⟨rfl, hb8⟩)
            go_roundw
            case rel => exact ⟨1, hlt, rfl, (by show _ = _; rw [HN, H2.out]; rfl), hbw.trans (hb8.mono hbw.size)⟩
            case measure => simp [intOf]; omega
        · obtain ⟨x', hx', hcq⟩ := hSr.2 m (by omega)
          obtain rfl : x = x' := by simpa using hx'
          obtain ⟨q, hq⟩ : ∃ q, ss.getD m ByteArray.empty = q := ⟨_, rfl⟩
          rw [hq] at hcq
          obtain ⟨c, hc⟩ : ∃ c, Op.bytesLess q.toList s.toList = c := ⟨_, rfl⟩
          have H2 : Hid (A = (b && c && rises (some s) (ss.drop (m + 1 + 1)))) := by
            show _ = _
            rw [← HS.out, hd, ← hc, ← hb, ← hq]; rfl
          have i0 : ((m : Int) + 1 - 1) = m := by omega
          have hcs1 : wr.cell? ⟨x.block, x.off + (m + 1), none⟩ = some (.string s) := by simpa [Addr.add] using hcs
          clear HS hd hb hS hSr hs hq hx' hcs
          cases b <;> cases c
          all_goals
            go_wp2_with (go_at_call 74; refine (n1 _).mono ?_; rintro e w8 ⟨rfl, hb8⟩; have hcq8 := cell_below hb8 hcq (block_lt hcq))
            first
            | (go_roundw
               case rel => exact ⟨m + 1 + 1, hlt, by go_num, (by show _ = _; rw [HN, H2.out]; rfl), hbw.trans (hb8.mono hbw.size)⟩
               case measure => simp [intOf]; omega)
            | (go_ret
               exact ⟨by rw [H2.out]; rfl, hbw.trans (hb8.mono hbw.size)⟩)
      · have e1 : k = ss.length := by omega
        have e2 : A = true := by rw [← HS.out, e1, List.drop_length]; cases ss.length <;> rfl
        subst e2
        clear hS hSr
        go_wp2
        go_ret
        exact ⟨rfl, hbw⟩

end Go.Proofs.YtpgchnppinbpkaaDoor
