/- The plain mathematics of names: a text's runes as the language reads them, what a name is, how many runes a text has. -/
import Derived.Test.YtmldpihjndafaabDoorRows
import Derived.WalkKit
import Derived.WalkSpells
import Derived.Laws.RangeAny
import Derived.WalkLawsBesides
import Derived.BigQuiet
import Derived.Deep.RegionWith
import Derived.Deep.LoopGhost
import Derived.Lib.OthersKept
import Derived.Below
import Derived.Maps.OwnSet
import Derived.OwnWalk
import Derived.ArgAppend
import Derived.OneCell
import Derived.Deep.RegionHeld3
import Derived.Deep.DrawnRows
import Derived.StillTactics
import Derived.Laws.Pointers
namespace Go.Proofs.YtmldpihjndafaabDoor
open Go.RowKit

theorem width_pos (s : ByteArray) (pos : Nat) (h : pos < s.size) : 1 ≤ (Utf8.decode s pos).2 := by
  by_cases ha : (s[pos]'h).toNat < 128
  · rw [decode_ascii s pos h ha]
    exact Nat.le_refl _
  · exact (decode_high s pos h (by omega)).2

/-- A digit. -/
def digR (r : Int) : Bool := decide (48 ≤ r) && decide (r ≤ 57)
/-- A rune that a name may have. -/
def ofR (r : Int) : Bool := (decide (97 ≤ r) && decide (r ≤ 122)) || digR r || (decide (945 ≤ r) && decide (r ≤ 969))
/-- May the rune r stand at this byte of a name? -/
def goodR (pos : Nat) (r : Int) : Bool := ofR r && !(decide (pos = 0) && digR r)

/-- Is what lies from this byte on, behind k runes, the rest of a name? -/
def nm (s : ByteArray) : Nat → Nat → Nat → Bool
  | 0, _, k => decide (0 < k)
  | f + 1, pos, k => if pos < s.size then (if decide (8 < k + 1) || !goodR pos (Utf8.decode s pos).1 then false else nm s f (pos + (Utf8.decode s pos).2) (k + 1)) else decide (0 < k)

/-- The same, as the chapter has it. -/
def rn (s : ByteArray) : Nat → Nat → Nat → Bool
  | 0, _, k => decide (1 ≤ k) && decide (k ≤ 8)
  | f + 1, pos, k => if pos < s.size then (if goodR pos (Utf8.decode s pos).1 then rn s f (pos + (Utf8.decode s pos).2) (k + 1) else false) else decide (1 ≤ k) && decide (k ≤ 8)

/-- How many runes lie from this byte on. -/
def rc (s : ByteArray) : Nat → Nat → Nat
  | 0, _ => 0
  | f + 1, pos => if pos < s.size then rc s f (pos + (Utf8.decode s pos).2) + 1 else 0

/-- Is a text a name? -/
def isName (s : ByteArray) : Bool := nm s s.size 0 0
/-- How many runes has it? -/
def count (s : ByteArray) : Nat := rc s s.size 0

theorem rn_far (s : ByteArray) : ∀ (f pos k : Nat), 8 < k → rn s f pos k = false
  | 0, _, k, h => by simp [rn]; omega
  | f + 1, pos, k, h => by
    unfold rn
    rw [rn_far s f _ (k + 1) (by omega)]
    have : decide (k ≤ 8) = false := by simp; omega
    simp [this]

theorem nm_eq (s : ByteArray) : ∀ (f pos k : Nat), k ≤ 8 → nm s f pos k = rn s f pos k
  | 0, _, k, h => by simp [nm, rn, h]; omega
  | f + 1, pos, k, h => by
    unfold nm rn
    by_cases h8 : k = 8
    · subst h8
      rw [rn_far s f _ 9 (by omega)]
      simp
    · rw [nm_eq s f _ (k + 1) (by omega)]
      have h9 : decide (8 < k + 1) = false := by simp; omega
      have e : decide (0 < k) = (decide (1 ≤ k) && decide (k ≤ 8)) := by simp [h]; omega
      rw [h9, e]
      cases goodR pos (Utf8.decode s pos).1 <;> simp

theorem rc_le (s : ByteArray) : ∀ (f pos : Nat), rc s f pos ≤ f
  | 0, _ => Nat.le_refl _
  | f + 1, pos => by unfold rc; have := rc_le s f (pos + (Utf8.decode s pos).2); split <;> omega

theorem count_le (s : ByteArray) : count s ≤ s.size := rc_le _ _ _

end Go.Proofs.YtmldpihjndafaabDoor

/- The contracts of the functions of package mark that read one text, and of the statements' own rest of a division. -/
namespace Go.Proofs.YtmldpihjndafaabDoor
open Go.RowKit
set_option linter.unusedSimpArgs false

theorem iterPos_of {w : World} {k : Nat} {s : ByteArray} {p : Nat} (h : w.heap[k]? = some (.stringIter s p)) : w.iterPos k = p := by simp [World.iterPos, h]

theorem digit_any (r : Int) (b : Bool) (h : digR r = b) (w : World) :
    Calls Tryd.prog 60 #[.int .i32 r] w fun e w' => e = .returned (.bool b) ∧ w' = w := by
  subst h
  unfold digR
  by_cases h1 : 48 ≤ r <;> by_cases h2 : r ≤ 57 <;> simp only [h1, h2, decide_true, decide_false, Bool.and_true, Bool.and_false, Bool.and_self]
  all_goals
    go_enter Tryd.func60, Tryd.ntmps60
    go_wp2
    go_ret
    exact ⟨rfl, rfl⟩

theorem ofName_any (r : Int) (b : Bool) (h : ofR r = b) (w : World) :
    Calls Tryd.prog 59 #[.int .i32 r] w fun e w' => e = .returned (.bool b) ∧ w' = w := by
  subst h
  unfold ofR
  obtain ⟨d, hd⟩ : ∃ d, digR r = d := ⟨_, rfl⟩
  rw [hd]
  by_cases h1 : 97 ≤ r <;> by_cases h2 : r ≤ 122 <;> cases d <;> by_cases h3 : 945 ≤ r <;> by_cases h4 : r ≤ 969 <;> simp only [h1, h2, h3, h4, decide_true, decide_false, Bool.and_true, Bool.and_false, Bool.and_self, Bool.or_true, Bool.or_false, Bool.or_self]
  all_goals
    go_enter Tryd.func59, Tryd.ntmps59
    (go_wp2_with (go_at_call 60; refine (digit_any _ _ (by assumption) _).mono ?_; rintro e w1 ⟨rfl, rfl⟩)) <;>
    (go_ret
     exact ⟨by first | rfl | simp [*], rfl⟩)

set_option maxHeartbeats 1000000 in
theorem name_any (s : ByteArray) (w : World) :
    Calls Tryd.prog 40 #[.string s] w fun e w' => e = .returned (.bool (isName s)) ∧ Below w.heap.size w w' := by
  go_enter Tryd.func40, Tryd.ntmps40
  go_wp2
  go_loopw [3] (fun v wr => ∃ (pos fuel k : Nat), v = .int .i64 k ∧ wr.heap[w.heap.size]? = some (.stringIter s pos) ∧ Below w.heap.size w wr ∧ Hid (nm s fuel pos k = isName s) ∧ s.size ≤ pos + fuel ∧ k ≤ 8) (fun _ wr => s.size - wr.iterPos w.heap.size)
  case atStart => exact ⟨0, s.size, 0, rfl, World.iter_heap w s 0, (Below.refl _ _).alloc (Nat.le_refl _) _, rfl, by omega, by omega⟩
  case round =>
    obtain ⟨pos, fuel, k, rfl, hit, hbw, HS, hb, hlen⟩ := hrel
    have hpos0 := iterPos_of hit
    by_cases hp : pos < s.size
    · have hnx : ∀ ty, (Instr.next (.pointer (some ⟨w.heap.size, 0, none⟩)) true ty).run Tryd.prog wr = _ := fun ty => Lib.run_next_any_at wr w.heap.size s pos ty hit hp
      have hwd := width_pos s pos hp
      obtain ⟨fuel, rfl⟩ : ∃ f', fuel = f' + 1 := ⟨fuel - 1, by omega⟩
      have hit2 := Lib.iterAt_heap wr w.heap.size s pos (pos + (Utf8.decode s pos).2) hit
      have hbw2 := Lib.below_iterAt hbw (k := w.heap.size) (Nat.le_refl _) s (pos + (Utf8.decode s pos).2)
      have hstep : Hid (isName s = if decide (8 < k + 1) || !goodR pos (Utf8.decode s pos).1 then false else nm s fuel (pos + (Utf8.decode s pos).2) (k + 1)) := by
        show _ = _
        rw [← HS.out]; simp [nm, hp]
      obtain ⟨W1, hW1⟩ : ∃ W1, W1 = wr.iterAt w.heap.size s (pos + (Utf8.decode s pos).2) := ⟨_, rfl⟩
      rw [← hW1] at hnx hit2 hbw2
      clear hW1 hit hbw HS
      obtain ⟨d, hd⟩ : ∃ d, digR (Utf8.decode s pos).1 = d := ⟨_, rfl⟩
      obtain ⟨o, ho⟩ : ∃ o, ofR (Utf8.decode s pos).1 = o := ⟨_, rfl⟩
      have hg : goodR pos (Utf8.decode s pos).1 = (o && !(decide (pos = 0) && d)) := by unfold goodR; rw [hd, ho]
      rw [hg] at hstep
      clear hg
      by_cases h8 : (8 : Int) < (k : Int) + 1 <;> cases o <;> by_cases h0 : pos = 0 <;> cases d
      all_goals
        have h9 : 8 < k + 1 ↔ (8 : Int) < (k : Int) + 1 := by omega
        simp only [h9, h8, decide_true, decide_false, h0] at hstep
        clear h9
        try subst h0
        go_wp2_with (first
          | (go_at_call 59; refine (ofName_any _ _ (by assumption) _).mono ?_; rintro e w1 ⟨rfl, rfl⟩)
          | (go_at_call 60; refine (digit_any _ _ (by assumption) _).mono ?_; rintro e w1 ⟨rfl, rfl⟩))
        first
        | (go_roundw
           case rel => exact ⟨_, fuel, k + 1, by go_num, hit2, hbw2, (by show _ = _; rw [hstep.out]; simp), by omega, by omega⟩
           case measure => rw [iterPos_of hit2, hpos0]; omega)
        | (go_ret
           exact ⟨by rw [hstep.out]; rfl, hbw2⟩)
        | (go_roundw
           case rel => exact ⟨_, fuel, k + 1, by go_num, hit2, hbw2, (by show _ = _; rw [hstep.out]; simp), by omega, by omega⟩
           case measure => rw [iterPos_of hit2, hpos0]; omega)
    · have hnx : ∀ ty, (Instr.next (.pointer (some ⟨w.heap.size, 0, none⟩)) true ty).run Tryd.prog wr = _ := fun ty => Lib.run_next_end_at wr w.heap.size s pos ty hit hp
      have e : isName s = decide (0 < k) := by rw [← HS.out]; cases fuel <;> simp [nm, hp]
      by_cases hk : 0 < k <;> simp only [hk, decide_true, decide_false] at e
      all_goals
        go_wp2
        go_ret
        exact ⟨by rw [e]; rfl, hbw⟩

/-- 'within': the rest by n, from 0 on. -/
theorem within_any (x n k : Int) (hn : 0 < n) (hm : n ≤ 9223372036854775807) (hk : x % n = k) (w : World) :
    Calls Tryd.prog 12 #[.int .i64 x, .int .i64 n] w fun e w' => e = .returned (.int .i64 k) ∧ w' = w := by
  have hn0 : ¬ n = 0 := by omega
  by_cases h : x.tmod n < 0
  · have hb : -n < x.tmod n := Int.lt_tmod_of_pos x hn
    have hw : wrap64 (x.tmod n + n) = k := by
      have e1 : x % n = x.tmod n + n := by
        have h1 := Int.emod_add_mul_ediv x n
        have h2 := Int.tmod_add_mul_tdiv x n
        have h3 : 0 ≤ x % n := Int.emod_nonneg x (by omega)
        have h4 : x % n < n := Int.emod_lt_of_pos x hn
        have h5 : (x.tmod n + n) % n = x % n := by
          rw [show x % n = (x.tmod n + n * x.tdiv n) % n by rw [h2], Int.add_emod_right, Int.add_mul_emod_self_left]
        rw [← h5]
        exact Int.emod_eq_of_lt (by omega) (by omega)
      unfold wrap64
      omega
    clear hk hm hn
    go_enter Tryd.func12, Tryd.ntmps12
    go_wp2
    go_ret
    exact ⟨by rw [← hw]; rfl, rfl⟩
  · have e1 : x.tmod n = k := by
      have h2 := Int.tmod_add_mul_tdiv x n
      have h4 : x.tmod n < n := Int.tmod_lt_of_pos x hn
      have h5 : (x.tmod n) % n = x % n := by
        rw [show x % n = (x.tmod n + n * x.tdiv n) % n by rw [h2], Int.add_mul_emod_self_left]
      rw [← hk, ← h5]
      exact (Int.emod_eq_of_lt (by omega) h4).symm
    have h' : 0 ≤ x.tmod n := by omega
    clear hk hm hn h
    rw [e1] at h'
    go_enter Tryd.func12, Tryd.ntmps12
    go_wp2
    go_ret
    exact ⟨rfl, rfl⟩

theorem name_on (s : ByteArray) (b : Bool) (w0 w : World) (hb : Below w0.heap.size w0 w) (h : isName s = b) :
    Calls Tryd.prog 40 #[.string s] w fun e w' => e = .returned (.bool b) ∧ Below w0.heap.size w0 w' := by
  subst h
  exact (name_any s w).mono fun e w' h => ⟨h.1, hb.trans (h.2.mono hb.size)⟩

end Go.Proofs.YtmldpihjndafaabDoor

/- What a walk is told of a slice of numbers that came in; cells that stay. -/
namespace Go.Proofs.YtmldpihjndafaabDoor
open Go.RowKit

/-- What is told of a slice of numbers that came in: nil, or a row of numbers in memory. -/
def IsRow (k : IntKind) (w : World) (a : Option Addr) (len cap : Nat) (zs : List Int) : Prop :=
  (a = none ∧ len = 0 ∧ cap = 0 ∧ zs = []) ∨
  ∃ x, a = some x ∧ len ≤ cap ∧ cap ≤ maxLen ∧ zs.length = cap ∧ (∀ i, i < zs.length → w.cell? (x.add i) = some (.int k (zs.getD i 0))) ∧ ∀ n ∈ zs, (Lit.int k n).wf = true

theorem block_lt {w : World} {a : Addr} {v : Value} (h : w.cell? a = some v) : a.block < w.heap.size := by
  rcases Nat.lt_or_ge a.block w.heap.size with h' | h'
  · exact h'
  · exfalso
    simp [World.cell?, Array.getElem?_eq_none h'] at h

theorem cell_below {B : Nat} {W w1 : World} (hb : Below B W w1) {a : Addr} {v : Value} (h : W.cell? a = some v) (hB : a.block < B) : w1.cell? a = some v := by
  rw [hb.cell hB]; exact h

/-- The same in one form: whatever place is asked for within the length, it is there. -/
def HasRow (w : World) (a : Option Addr) (len : Nat) (zs : List Int) : Prop :=
  len ≤ maxLen ∧ ∀ i, i < len → ∃ x, a = some x ∧ w.cell? (x.add i) = some (.int .i64 (zs.getD i 0))

theorem IsRow.has {w : World} {a : Option Addr} {len cap : Nat} {zs : List Int} (h : IsRow .i64 w a len cap zs) : HasRow w a len zs := by
  rcases h with ⟨rfl, rfl, rfl, rfl⟩ | ⟨x, rfl, hl, hm, hz, hc, _⟩
  · exact ⟨Nat.zero_le _, fun i hi => by omega⟩
  · exact ⟨by omega, fun i hi => ⟨x, rfl, hc i (by omega)⟩⟩

theorem HasRow.at {B : Nat} {w w1 : World} {a : Option Addr} {len : Nat} {zs : List Int} (h : HasRow w a len zs) (hb : Below B w w1) (hB : w.heap.size ≤ B) (i : Nat) (hi : i < len) : ∃ x z, a = some x ∧ w1.cell? (x.add i) = some (.int .i64 z) := by
  obtain ⟨x, hx, hc⟩ := h.2 i hi
  exact ⟨x, _, hx, cell_below hb hc (Nat.lt_of_lt_of_le (block_lt hc) hB)⟩

theorem cell_alloc {w : World} {a : Addr} {v : Value} (h : w.cell? a = some v) (o : Obj) : (w.alloc o).cell? a = some v :=
  cell_below ((Below.refl _ _).alloc (Nat.le_refl _) o) h (block_lt h)

end Go.Proofs.YtmldpihjndafaabDoor

/- Rows of texts: when one is a set of marks, whether all of one are among another one; the contracts of Set and All of package mark. -/
namespace Go.Proofs.YtmldpihjndafaabDoor
open Go.RowKit Go.Maps

/-- A row of texts in memory. -/
def Strs (w : World) (a : Option Addr) (ss : List ByteArray) : Prop :=
  ss.length ≤ 1000 ∧ ∀ i, i < ss.length → ∃ x, a = some x ∧ w.cell? (x.add i) = some (.string (ss.getD i ByteArray.empty))

theorem Strs.later {w w1 : World} {a : Option Addr} {ss : List ByteArray} (h : Strs w a ss) (hb : Below w.heap.size w w1) : Strs w1 a ss :=
  ⟨h.1, fun i hi => by
    obtain ⟨x, hx, hc⟩ := h.2 i hi
    exact ⟨x, hx, cell_below hb hc (block_lt hc)⟩⟩

/-- Names in rising order, behind the one ahead of them. -/
def rises : Option ByteArray → List ByteArray → Bool
  | _, [] => true
  | none, s :: l => isName s && rises (some s) l
  | some q, s :: l => isName s && Op.bytesLess q.toList s.toList && rises (some s) l
/-- Is it a set of marks? -/
def setB (l : List ByteArray) : Bool := decide (l.length ≤ 4) && rises none l
/-- Is a text among these? -/
def inB (l : List ByteArray) (s : ByteArray) : Bool := l.any fun t => t.toList == s.toList
/-- Are all of the one among the other ones? -/
def allB (of l : List ByteArray) : Bool := of.all (inB l)

/-- The one ahead of place k. -/
def ahead (l : List ByteArray) : Nat → Option ByteArray
  | 0 => none
  | k + 1 => some (l.getD k ByteArray.empty)

theorem drop_at (l : List ByteArray) (k : Nat) (h : k < l.length) : l.drop k = l.getD k ByteArray.empty :: l.drop (k + 1) := by
  rw [List.drop_eq_getElem_cons h]
  simp [List.getD, List.getElem?_eq_getElem h]

set_option maxRecDepth 100000 in
set_option maxHeartbeats 2000000 in
theorem set_any (a : Option Addr) (cap : Nat) (ss : List ByteArray) (w : World) (hS : Strs w a ss) :
    Calls Tryd.prog 56 #[.slice a ss.length cap] w fun e w' => e = .returned (.bool (setB ss)) ∧ Below w.heap.size w w' := by
  have hl := hS.1
  by_cases h4 : (4 : Int) < ss.length
  · have e : setB ss = false := by unfold setB; have : decide (ss.length ≤ 4) = false := by simp; omega
                                   rw [this]; rfl
    rw [e]
    clear e
    go_enter Tryd.func56, Tryd.ntmps56
    go_wp2
    go_ret
    exact ⟨rfl, Below.refl _ _⟩
  · have e : setB ss = rises none ss := by unfold setB; have : decide (ss.length ≤ 4) = true := by simp; omega
                                           rw [this]; rfl
    obtain ⟨A, hA⟩ : ∃ A, setB ss = A := ⟨_, rfl⟩
    have hA0 : Hid (rises (ahead ss 0) (ss.drop 0) = A) := by show _ = _; rw [← hA, e]; rfl
    rw [hA]
    clear e hA
    go_enter Tryd.func56, Tryd.ntmps56
    go_wp2
    go_loopw [10] (fun i wr => ∃ k : Nat, k ≤ ss.length ∧ i = .int .i64 k ∧ Hid (rises (ahead ss k) (ss.drop k) = A) ∧ Below w.heap.size w wr) (fun i _ => ss.length - (intOf i).toNat)
    case atStart => exact ⟨0, Nat.zero_le _, rfl, hA0, Below.refl _ _⟩
    case round =>
      obtain ⟨k, hk, rfl, HS, hbw⟩ := hrel
      clear hA0
      have hSr := hS.later hbw
      by_cases hlt : k < ss.length
      · obtain ⟨x, rfl, hcs⟩ := hSr.2 k hlt
        obtain ⟨s, hs⟩ : ∃ s, ss.getD k ByteArray.empty = s := ⟨_, rfl⟩
        have hd := drop_at ss k hlt
        rw [hs] at hd hcs
        have HN : ahead ss (k + 1) = some s := by rw [← hs]; rfl
        obtain ⟨b, hb⟩ : ∃ b, isName s = b := ⟨_, rfl⟩
        have n1 := fun W => name_any s W
        rw [hb] at n1
        rcases (by cases k with | zero => exact .inl rfl | succ m => exact .inr ⟨m, rfl⟩ : k = 0 ∨ ∃ m, k = m + 1) with rfl | ⟨m, rfl⟩
        · have H2 : Hid (A = (b && rises (some s) (ss.drop 1))) := by
            show _ = _
            rw [← HS.out, hd]; simp [ahead, rises, hb]
          have hcs0 : wr.cell? x = some (.string s) := by simpa [Addr.add] using hcs
          clear HS hd hb hS hSr hs hcs
          cases b
          · go_wp2_with (go_at_call 40; refine (n1 _).mono ?_; rintro e w8 ⟨rfl, hb8⟩)
            go_ret
            exact ⟨by rw [H2.out]; rfl, hbw.trans (hb8.mono hbw.size)⟩
          · go_wp2_with (go_at_call 40; refine (n1 _).mono ?_; rintro e w8 ⟨rfl, hb8⟩)
            go_roundw
            case rel => exact ⟨1, hlt, rfl, (by show _ = _; rw [HN, H2.out]; rfl), hbw.trans (hb8.mono hbw.size)⟩
            case measure => simp [intOf]; omega
        · obtain ⟨x', hx', hcq⟩ := hSr.2 m (by omega)
          obtain rfl : x = x' := by simpa using hx'
          obtain ⟨q, hq⟩ : ∃ q, ss.getD m ByteArray.empty = q := ⟨_, rfl⟩
          rw [hq] at hcq
          obtain ⟨c, hc⟩ : ∃ c, Op.bytesLess q.toList s.toList = c := ⟨_, rfl⟩
          have H2 : Hid (A = (b && c && rises (some s) (ss.drop (m + 1 + 1)))) := by
            show _ = _
            rw [← HS.out, hd, ← hc, ← hb, ← hq]; rfl
          have i0 : ((m : Int) + 1 - 1) = m := by omega
          have hcs1 : wr.cell? ⟨x.block, x.off + (m + 1), none⟩ = some (.string s) := by simpa [Addr.add] using hcs
          clear HS hd hb hS hSr hs hq hx' hcs
          cases b <;> cases c
          all_goals
            go_wp2_with (go_at_call 40; refine (n1 _).mono ?_; rintro e w8 ⟨rfl, hb8⟩; have hcq8 := cell_below hb8 hcq (block_lt hcq))
            first
            | (go_roundw
               case rel => exact ⟨m + 1 + 1, hlt, by go_num, (by show _ = _; rw [HN, H2.out]; rfl), hbw.trans (hb8.mono hbw.size)⟩
               case measure => simp [intOf]; omega)
            | (go_ret
               exact ⟨by rw [H2.out]; rfl, hbw.trans (hb8.mono hbw.size)⟩)
      · have e1 : k = ss.length := by omega
        have e2 : A = true := by rw [← HS.out, e1, List.drop_length]; cases ss.length <;> rfl
        subst e2
        clear hS hSr
        go_wp2
        go_ret
        exact ⟨rfl, hbw⟩

end Go.Proofs.YtmldpihjndafaabDoor

/- Blocks of variables that are known whole. -/
namespace Go.Proofs.YtmldpihjndafaabDoor
open Go.RowKit

/-- This block holds these cells. -/
def Box (w : World) (B : Nat) (cs : Array Value) (t : TypeId) : Prop := w.heap[B]? = some (.cells cs t (0, 0))

section
variable {w w' : World} {B : Nat} {cs : Array Value} {t : TypeId} {x0 x1 x2 x3 x4 x5 x6 : Value}
theorem Box.new (w : World) (cs : Array Value) (t : TypeId) (hB : w.heap.size = B) : Box (w.alloc (.cells cs t)) B cs t := by subst hB; exact heap_alloc_new w _
theorem Box.lt (h : Box w B cs t) : B < w.heap.size := (Array.getElem?_eq_some_iff.1 h).1
theorem Box.later (h : Box w B cs t) (hb : Below w.heap.size w w') : Box w' B cs t := by
  have := h.lt
  unfold Box at *
  rw [hb.block B this, h]
theorem Box.up (h : Box w B cs t) (o : Obj) : Box (w.alloc o) B cs t := h.later ((Below.refl _ _).alloc (Nat.le_refl _) o)
theorem Box.drew (h : Box w B cs t) : Box w.drew B cs t := h
theorem Box.cell (h : Box w B cs t) {i : Nat} {v : Value} (hv : cs[i]? = some v) : w.cell? ⟨B, i, none⟩ = some v := by
  unfold Box at h
  simp [World.cell?, h, hv]
theorem Box.frozen (h : Box w B cs t) (j : Nat) : w.frozen? ⟨B, j, none⟩ = false := by
  unfold Box at h; simp [World.frozen?, h]
theorem Box.set (h : Box w B cs t) (i : Nat) (v : Value) : Box (w.setCell ⟨B, i, none⟩ v) B (cs.setIfInBounds i v) t := by
  unfold Box at *
  rw [heap_setCell_same w B i _ _ _ h]
theorem Box.other (h : Box w B cs t) {b : Nat} (hne : B ≠ b) (i : Nat) (z : Value) : Box (w.setCell ⟨b, i, none⟩ z) B cs t := by
  unfold Box at *
  rw [Below.heap_setCell _ _ _ _ hne, h]
theorem Box.grown {row : Option Nat} (h : Box w B cs t) (hg : w.grownBy w' row) (hne : some B ≠ row) : Box w' B cs t := by
  have := h.lt
  unfold Box at *
  rw [hg.block B this hne, h]
theorem Box.cells7 (h : Box w B #[x0, x1, x2, x3, x4, x5, x6] t) : w.cell? ⟨B, 0, none⟩ = some x0 ∧ w.cell? ⟨B, 1, none⟩ = some x1 ∧ w.cell? ⟨B, 2, none⟩ = some x2 ∧ w.cell? ⟨B, 3, none⟩ = some x3 ∧ w.cell? ⟨B, 4, none⟩ = some x4 ∧ w.cell? ⟨B, 5, none⟩ = some x5 ∧ w.cell? ⟨B, 6, none⟩ = some x6 :=
  ⟨h.cell rfl, h.cell rfl, h.cell rfl, h.cell rfl, h.cell rfl, h.cell rfl, h.cell rfl⟩
theorem Box.cells6 (h : Box w B #[x0, x1, x2, x3, x4, x5] t) : w.cell? ⟨B, 0, none⟩ = some x0 ∧ w.cell? ⟨B, 1, none⟩ = some x1 ∧ w.cell? ⟨B, 2, none⟩ = some x2 ∧ w.cell? ⟨B, 3, none⟩ = some x3 ∧ w.cell? ⟨B, 4, none⟩ = some x4 ∧ w.cell? ⟨B, 5, none⟩ = some x5 :=
  ⟨h.cell rfl, h.cell rfl, h.cell rfl, h.cell rfl, h.cell rfl, h.cell rfl⟩
theorem Box.cells2 (h : Box w B #[x0, x1] t) : w.cell? ⟨B, 0, none⟩ = some x0 ∧ w.cell? ⟨B, 1, none⟩ = some x1 := ⟨h.cell rfl, h.cell rfl⟩
end

theorem fin {w W w3 : World} (h3 : Below W.heap.size W w3) (h : Below w.heap.size w W) : Below w.heap.size w w3 := h.trans (h3.mono h.size)
theorem grown_set (w : World) (b i : Nat) (v : Value) : w.grownBy (w.setCell ⟨b, i, none⟩ v) (some b) := by
  have h := (Below.refl 0 w).setCell (p := ⟨b, i, none⟩) (Nat.zero_le _) v
  exact ⟨h.os, h.tape, h.output, h.size, fun k _ hne => Below.heap_setCell w _ v k (fun e => hne (by rw [e]))⟩
theorem grown_trans {w w1 w2 : World} {q : Option Nat} (h : w.grownBy w1 q) (h2 : w1.grownBy w2 q) : w.grownBy w2 q :=
  ⟨h2.os.trans h.os, h2.tape.trans h.tape, h2.output.trans h.output, Nat.le_trans h.size h2.size, fun k hk hne => by rw [h2.block k (Nat.lt_of_lt_of_le hk h.size) hne, h.block k hk hne]⟩
theorem below_grown {w w' : World} (h : Below w.heap.size w w') (q : Option Nat) : w.grownBy w' q := ⟨h.os, h.tape, h.output, h.size, fun k hk _ => h.block k hk⟩
theorem up {w W : World} (h : Below w.heap.size w W) (o : Obj) : Below w.heap.size w (W.alloc o) := h.alloc h.size o

end Go.Proofs.YtmldpihjndafaabDoor

/- The contracts of the functions that hold a Vec against its bounds: of package vec, and of package spec. -/
namespace Go.Proofs.YtmldpihjndafaabDoor
open Go.RowKit
attribute [local go_sem ↓] Go.wp_at_zero Go.wp_at_succ

theorem eqVec (x y u v : Int) (w : World) : (Op.equalIn 10000 30 (.agg #[.int .i64 x, .int .i64 y]) (.agg #[.int .i64 u, .int .i64 v])).run Tryd.prog w = .ok (x == u && y == v) w := by
  rw [run_equalIn_struct w 9999 30 _ _ (by kernel_rfl) (by kernel_rfl)]
  have p0 : ∀ (a b : Value) w, (part 3 #[a, b] 0).run Tryd.prog w = .ok a w := fun _ _ _ => by kernel_rfl
  have p1 : ∀ (a b : Value) w, (part 3 #[a, b] 1).run Tryd.prog w = .ok b w := fun _ _ _ => by kernel_rfl
  have q : ∀ (a b : Int) w, (Op.equalIn 9999 3 (.int .i64 a) (.int .i64 b)).run Tryd.prog w = .ok (a == b) w := fun a b w => run_equalIn_int w 9998 3 .i64 .i64 a b Tryd.underlying3
  by_cases h1 : x = u <;> by_cases h2 : y = v <;> simp [Program.fieldsOf, Tryd.underlying30, Op.eqFields, Sem.run_bind, p0, p1, q, h1, h2, Result.andThen]

theorem right_eq (x y : Int) : (x == max x 0 && y == max y 0) = decide (0 ≤ x ∧ 0 ≤ y) := by
  rw [Bool.eq_iff_iff]; simp; omega

/-- A part of a Vec is within its bounds. -/
def sizeB (x y : Int) : Bool := decide (0 ≤ x ∧ 0 ≤ y ∧ x ≤ 1099511627776 ∧ y ≤ 1099511627776)

/-- The block of one pair of numbers. -/
abbrev V (x y : Int) : Obj := .cells #[.int .i64 x, .int .i64 y] 30

theorem raised_any (x y : Int) (w : World) :
    Calls Tryd.prog 77 #[.agg #[.int .i64 x, .int .i64 y]] w fun e w' => e = .returned (.agg #[.int .i64 (max x 0), .int .i64 (max y 0)]) ∧ Below w.heap.size w w' := by
  have hx : max x 0 = if x < 0 then 0 else x := by omega
  have hy : max y 0 = if y < 0 then 0 else y := by omega
  rw [hx, hy]
  clear hx hy
  by_cases h1 : x < 0 <;> by_cases h2 : y < 0 <;> simp only [h1, h2, if_true, if_false]
  all_goals
    go_enter Tryd.func77, Tryd.ntmps77
    go_wp2
    refine bodyPost_ret (by simp [results, Tryd.results77, go_sem]) rfl ⟨rfl, ?_⟩
    exact ((Below.refl _ _).alloc (Nat.le_refl _) _).alloc (by simp) _

theorem lowered_any (x y : Int) (w : World) :
    Calls Tryd.prog 58 #[.agg #[.int .i64 x, .int .i64 y]] w fun e w' => e = .returned (.agg #[.int .i64 (min x 1099511627776), .int .i64 (min y 1099511627776)]) ∧ Below w.heap.size w w' := by
  have hx : min x 1099511627776 = if 1099511627776 < x then 1099511627776 else x := by omega
  have hy : min y 1099511627776 = if 1099511627776 < y then 1099511627776 else y := by omega
  rw [hx, hy]
  clear hx hy
  by_cases h1 : 1099511627776 < x <;> by_cases h2 : 1099511627776 < y <;> simp only [h1, h2, if_true, if_false]
  all_goals
    go_enter Tryd.func58, Tryd.ntmps58
    go_wp2
    refine bodyPost_ret (by simp [results, Tryd.results58, go_sem]) rfl ⟨rfl, ?_⟩
    exact ((Below.refl _ _).alloc (Nat.le_refl _) _).alloc (by simp) _

/-- What a call leaves, with one pair of cells that stays. -/
theorem held_pair {F : Nat} {args : Array Value} {v : Value} {w0 W : World} {B : Nat} {x y : Int} (h : Calls Tryd.prog F args W fun e w' => e = .returned v ∧ Below W.heap.size W w')
    (h1 : W.cell? ⟨B, 0, none⟩ = some (.int .i64 x)) (h2 : W.cell? ⟨B, 1, none⟩ = some (.int .i64 y)) (h0 : Below w0.heap.size w0 W) :
    Calls Tryd.prog F args W fun e w' => e = .returned v ∧ w'.cell? ⟨B, 0, none⟩ = some (.int .i64 x) ∧ w'.cell? ⟨B, 1, none⟩ = some (.int .i64 y) ∧ Below w0.heap.size w0 w' :=
  h.mono fun _ _ h => ⟨h.1, cell_below h.2 h1 (block_lt h1), cell_below h.2 h2 (block_lt h2), h0.trans (h.2.mono h0.size)⟩

theorem right_any (b : Bool) (x y : Int) (h : decide (0 ≤ x ∧ 0 ≤ y) = b) (w : World) :
    Calls Tryd.prog 57 #[.agg #[.int .i64 x, .int .i64 y]] w fun e w' => e = .returned (.bool b) ∧ Below w.heap.size w w' := by
  have he := eqVec
  have h' : (x == max x 0 && y == max y 0) = b := by rw [right_eq, h]
  clear h
  go_enter Tryd.func57, Tryd.ntmps57
  go_wp2
  go_region_with (go_at_call 77; refine (held_pair (w0 := w) (B := w.heap.size) (x := x) (y := y) (raised_any _ _ _) (by simp) (by simp) (Below.drew ((Below.refl _ _).alloc (Nat.le_refl _) _))).mono ?_; rintro e w1 ⟨rfl, hc1, hc2, hb1⟩)
  all_goals
    go_wp2
    go_ret
    exact ⟨rfl, hb1⟩

theorem bounded_any (b : Bool) (x y : Int) (h : sizeB x y = b) (w : World) :
    Calls Tryd.prog 39 #[.agg #[.int .i64 x, .int .i64 y]] w fun e w' => e = .returned (.bool b) ∧ Below w.heap.size w w' := by
  have he := eqVec
  obtain ⟨r, hr⟩ : ∃ r, decide (0 ≤ x ∧ 0 ≤ y) = r := ⟨_, rfl⟩
  cases r
  · have e : b = false := by
      subst h
      unfold sizeB
      simp at hr ⊢
      omega
    subst e
    clear h
    go_enter Tryd.func39, Tryd.ntmps39
    go_wp2
    go_region_with (go_at_call 57; refine (right_any _ _ _ (by assumption) _).mono ?_; rintro e w1 ⟨rfl, hb1⟩)
    all_goals
      go_wp2
      go_ret
      have c3 : Below w.heap.size w (w.alloc (V x y)).drew := Below.drew ((Below.refl _ _).alloc (Nat.le_refl _) _)
      exact ⟨rfl, c3.trans (hb1.mono c3.size)⟩
  · have h' : (x == min x 1099511627776 && y == min y 1099511627776) = b := by
      subst h
      unfold sizeB
      rw [Bool.eq_iff_iff]; simp at hr ⊢; omega
    clear h
    go_enter Tryd.func39, Tryd.ntmps39
    go_wp2
    have c1 : (w.alloc (V x y)).drew.cell? ⟨w.heap.size, 0, none⟩ = some (.int .i64 x) := by simp
    have c2 : (w.alloc (V x y)).drew.cell? ⟨w.heap.size, 1, none⟩ = some (.int .i64 y) := by simp
    have c3 : Below w.heap.size w (w.alloc (V x y)).drew := Below.drew ((Below.refl _ _).alloc (Nat.le_refl _) _)
    go_region_held3 (fun w' => w'.cell? ⟨w.heap.size, 0, none⟩ = some (.int .i64 x) ∧ w'.cell? ⟨w.heap.size, 1, none⟩ = some (.int .i64 y) ∧ Below w.heap.size w w') (exact ⟨by assumption, by assumption, by assumption⟩)
      (first
        | (go_at_call 57; refine (held_pair (right_any _ _ _ (by assumption) _) (by assumption) (by assumption) (by assumption)).mono ?_; rintro e w1 ⟨rfl, hc1, hc2, hb1⟩)
        | (go_at_call 58; refine (held_pair (lowered_any _ _ _) (by assumption) (by assumption) (by assumption)).mono ?_; rintro e w1 ⟨rfl, hc1, hc2, hb1⟩)
        | fail)
    go_wp2
    go_ret
    exact ⟨rfl, by assumption⟩

end Go.Proofs.YtmldpihjndafaabDoor

/- Pods and nodes as values; the contracts of asked, Pod and Node of package spec. -/
namespace Go.Proofs.YtmldpihjndafaabDoor
open Go.RowKit
attribute [local go_sem ↓] Go.wp_at_zero Go.wp_at_succ

/-- The errors that pods and nodes have in common. -/
def askE (name : Bool) (num : Bool) (s t : Bool) : Int := if name then (if num then (if s && t then 0 else 1) else 2) else 1

theorem set_is (a : Option Addr) (n c : Nat) (ss : List ByteArray) (b : Bool) (W : World) (h : Strs W a ss) (e : ss.length = n) (hb : setB ss = b) :
    Calls Tryd.prog 56 #[.slice a n c] W fun e w' => e = .returned (.bool b) ∧ Below W.heap.size W w' := by
  subst e hb
  exact set_any a c ss W h

set_option maxRecDepth 100000 in
theorem asked_any (s : ByteArray) (num : Bool) (a1 a2 : Option Addr) (n1 n2 c1 c2 : Nat) (xs ys : List ByteArray) (w : World) (h1 : Strs w a1 xs) (h2 : Strs w a2 ys) (e1 : xs.length = n1) (e2 : ys.length = n2) :
    Calls Tryd.prog 38 #[.string s, .bool num, .slice a1 n1 c1, .slice a2 n2 c2] w fun e w' => e = .returned (.int .i64 (askE (isName s) num (setB xs) (setB ys))) ∧ Below w.heap.size w w' := by
  obtain ⟨b0, hb0⟩ : ∃ b, isName s = b := ⟨_, rfl⟩
  obtain ⟨b1, hb1⟩ : ∃ b, setB xs = b := ⟨_, rfl⟩
  obtain ⟨b2, hb2⟩ : ∃ b, setB ys = b := ⟨_, rfl⟩
  have n := name_any s w
  rw [hb0] at n
  rw [hb0, hb1, hb2]
  have k1 := fun W (h : Below w.heap.size w W) => set_is a1 n1 c1 xs b1 W (h1.later h) e1 hb1
  have k2 := fun W (h : Below w.heap.size w W) => set_is a2 n2 c2 ys b2 W (h2.later h) e2 hb2
  clear h1 h2 e1 e2 hb0 hb1 hb2
  cases b0 <;> cases num <;> cases b1 <;> cases b2
  all_goals
    go_enter Tryd.func38, Tryd.ntmps38
    go_wp2_with (first
      | (go_at_call 40; refine n.mono ?_; rintro e w3 ⟨rfl, h3⟩; try replace k1 := k1 _ h3)
      | (go_at_call_of 56 (Value.slice a1 n1 c1); refine k1.mono ?_; rintro e w4 ⟨rfl, h4⟩; replace h3 := h3.trans (h4.mono h3.size); replace k2 := k2 _ h3)
      | (go_at_call_of 56 (Value.slice a2 n2 c2); refine k2.mono ?_; rintro e w5 ⟨rfl, h5⟩; replace h3 := h3.trans (h5.mono h3.size)))
    go_ret
    exact ⟨rfl, h3⟩

theorem bounded_is (b : Bool) (x y : Int) (h : sizeB x y = b) (w W : World) (hb : Below w.heap.size w W) :
    Calls Tryd.prog 39 #[.agg #[.int .i64 x, .int .i64 y]] W fun e w' => e = .returned (.bool b) ∧ Below w.heap.size w w' ∧ Below W.heap.size W w' :=
  (bounded_any b x y h W).mono fun _ _ h => ⟨h.1, hb.trans (h.2.mono hb.size), h.2⟩

/-- What Node answers. -/
def nodeE (s : ByteArray) (cpu mem : Int) (xs ys : List ByteArray) : Int := askE (isName s) (sizeB cpu mem) (setB xs) (setB ys)

theorem held_node {F : Nat} {args : Array Value} {v : Value} {w0 W : World} {B : Nat} {s : ByteArray} {x y : Int} {u t : Value} (h : Calls Tryd.prog F args W fun e w' => e = .returned v ∧ Below W.heap.size W w')
    (h1 : W.cell? ⟨B, 0, none⟩ = some (.string s)) (h2 : W.cell? ⟨B, 1, none⟩ = some (.int .i64 x)) (h3 : W.cell? ⟨B, 2, none⟩ = some (.int .i64 y)) (h4 : W.cell? ⟨B, 3, none⟩ = some u) (h5 : W.cell? ⟨B, 4, none⟩ = some t) (h0 : Below w0.heap.size w0 W) :
    Calls Tryd.prog F args W fun e w' => e = .returned v ∧ w'.cell? ⟨B, 0, none⟩ = some (.string s) ∧ w'.cell? ⟨B, 1, none⟩ = some (.int .i64 x) ∧ w'.cell? ⟨B, 2, none⟩ = some (.int .i64 y) ∧ w'.cell? ⟨B, 3, none⟩ = some u ∧ w'.cell? ⟨B, 4, none⟩ = some t ∧ Below w0.heap.size w0 w' :=
  h.mono fun _ _ h => ⟨h.1, cell_below h.2 h1 (block_lt h1), cell_below h.2 h2 (block_lt h2), cell_below h.2 h3 (block_lt h3), cell_below h.2 h4 (block_lt h4), cell_below h.2 h5 (block_lt h5), h0.trans (h.2.mono h0.size)⟩

set_option maxRecDepth 100000 in
set_option maxHeartbeats 1000000 in
theorem node_any (s : ByteArray) (cpu mem : Int) (a1 a2 : Option Addr) (n1 n2 c1 c2 : Nat) (al : Bool) (xs ys : List ByteArray) (w : World) (h1 : Strs w a1 xs) (h2 : Strs w a2 ys) (e1 : xs.length = n1) (e2 : ys.length = n2) :
    Calls Tryd.prog 27 #[.agg #[.string s, .int .i64 cpu, .int .i64 mem, .slice a1 n1 c1, .slice a2 n2 c2, .bool al]] w fun e w' =>
      e = .returned (.int .i64 (nodeE s cpu mem xs ys)) ∧ Below w.heap.size w w' := by
  unfold nodeE
  obtain ⟨b, hb⟩ : ∃ b, sizeB cpu mem = b := ⟨_, rfl⟩
  rw [hb]
  have kb := fun W => bounded_any b cpu mem hb W
  have ka := fun num W (h : Below w.heap.size w W) => asked_any s num a1 a2 n1 n2 c1 c2 xs ys W (h1.later h) (h2.later h) e1 e2
  clear h1 h2 e1 e2 hb
  go_enter Tryd.func27, Tryd.ntmps27
  go_wp2
  have hO : Below w.heap.size w (w.alloc (.cells #[.string s, .int .i64 cpu, .int .i64 mem, .slice a1 n1 c1, .slice a2 n2 c2, .bool al] 33)).drew := Below.drew ((Below.refl _ _).alloc (Nat.le_refl _) _)
  have c0 : (w.alloc (.cells #[.string s, .int .i64 cpu, .int .i64 mem, .slice a1 n1 c1, .slice a2 n2 c2, .bool al] 33)).drew.cell? ⟨w.heap.size, 0, none⟩ = some (.string s) := by simp
  have c1' : (w.alloc (.cells #[.string s, .int .i64 cpu, .int .i64 mem, .slice a1 n1 c1, .slice a2 n2 c2, .bool al] 33)).drew.cell? ⟨w.heap.size, 1, none⟩ = some (.int .i64 cpu) := by simp
  have c2' : (w.alloc (.cells #[.string s, .int .i64 cpu, .int .i64 mem, .slice a1 n1 c1, .slice a2 n2 c2, .bool al] 33)).drew.cell? ⟨w.heap.size, 2, none⟩ = some (.int .i64 mem) := by simp
  have c3' : (w.alloc (.cells #[.string s, .int .i64 cpu, .int .i64 mem, .slice a1 n1 c1, .slice a2 n2 c2, .bool al] 33)).drew.cell? ⟨w.heap.size, 3, none⟩ = some (.slice a1 n1 c1) := by simp
  have c4' : (w.alloc (.cells #[.string s, .int .i64 cpu, .int .i64 mem, .slice a1 n1 c1, .slice a2 n2 c2, .bool al] 33)).drew.cell? ⟨w.heap.size, 4, none⟩ = some (.slice a2 n2 c2) := by simp
  go_region_held3 (fun w' => w'.cell? ⟨w.heap.size, 0, none⟩ = some (.string s) ∧ w'.cell? ⟨w.heap.size, 1, none⟩ = some (.int .i64 cpu) ∧ w'.cell? ⟨w.heap.size, 2, none⟩ = some (.int .i64 mem) ∧ w'.cell? ⟨w.heap.size, 3, none⟩ = some (.slice a1 n1 c1) ∧ w'.cell? ⟨w.heap.size, 4, none⟩ = some (.slice a2 n2 c2) ∧ Below w.heap.size w w')
    (exact ⟨by assumption, by assumption, by assumption, by assumption, by assumption, by assumption⟩)
    (first
      | (go_at_call 39; refine (held_node (kb _) (by assumption) (by assumption) (by assumption) (by assumption) (by assumption) (by assumption)).mono ?_; rintro e w1 ⟨rfl, g0, g1, g2, g3, g4, g5⟩)
      | (go_at_call 38; refine (held_node (ka _ _ (by assumption)) (by assumption) (by assumption) (by assumption) (by assumption) (by assumption) (by assumption)).mono ?_; rintro e w1 ⟨rfl, g0, g1, g2, g3, g4, g5⟩)
      | fail)
  go_wp2
  go_ret
  exact ⟨rfl, by assumption⟩

end Go.Proofs.YtmldpihjndafaabDoor
