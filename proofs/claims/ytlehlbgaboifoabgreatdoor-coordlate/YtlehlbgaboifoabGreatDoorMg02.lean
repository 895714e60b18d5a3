/- The contracts of the functions of package mark that read one text, and of the statements' own rest of a division. -/
import Derived.Test.YtlehlbgaboifoabGreatDoorMg01
import Derived.WalkLawsBesides
import Derived.BigQuiet
import Derived.Deep.RegionWith
import Derived.Deep.LoopGhost
import Derived.Lib.OthersKept
import Derived.Below
import Derived.Maps.OwnSet
import Derived.OwnWalk
import Derived.ArgAppend
import Derived.OneCell
namespace Go.Proofs.YtlehlbgaboifoabGreatDoor
open Go.RowKit
set_option linter.unusedSimpArgs false

theorem iterPos_of {w : World} {k : Nat} {s : ByteArray} {p : Nat} (h : w.heap[k]? = some (.stringIter s p)) : w.iterPos k = p := by simp [World.iterPos, h]

theorem digit_any (r : Int) (b : Bool) (h : digR r = b) (w : World) :
    Calls Tryz.prog 154 #[.int .i32 r] w fun e w' => e = .returned (.bool b) ∧ w' = w := by
  subst h
  unfold digR
  by_cases h1 : 48 ≤ r <;> by_cases h2 : r ≤ 57 <;> simp only [h1, h2, decide_true, decide_false, Bool.and_true, Bool.and_false, Bool.and_self]
  all_goals
    go_enter Tryz.func154, Tryz.ntmps154
    go_wp2
    go_ret
    exact ⟨rfl, rfl⟩

theorem ofName_any (r : Int) (b : Bool) (h : ofR r = b) (w : World) :
    Calls Tryz.prog 153 #[.int .i32 r] w fun e w' => e = .returned (.bool b) ∧ w' = w := by
  subst h
  unfold ofR
  obtain ⟨d, hd⟩ : ∃ d, digR r = d := ⟨_, rfl⟩
  rw [hd]
  by_cases h1 : 97 ≤ r <;> by_cases h2 : r ≤ 122 <;> cases d <;> by_cases h3 : 945 ≤ r <;> by_cases h4 : r ≤ 969 <;> simp only [h1, h2, h3, h4, decide_true, decide_false, Bool.and_true, Bool.and_false, Bool.and_self, Bool.or_true, Bool.or_false, Bool.or_self]
  all_goals
    go_enter Tryz.func153, Tryz.ntmps153
    (go_wp2_with (go_at_call 154; refine (digit_any _ _ (by assumption) _).mono ?_; rintro e w1 ⟨rfl, rfl⟩)) <;>
    (go_ret
     exact ⟨by first | rfl | simp [*], rfl⟩)

set_option maxHeartbeats 1000000 in
theorem name_any (s : ByteArray) (w : World) :
    Calls Tryz.prog 119 #[.string s] w fun e w' => e = .returned (.bool (isName s)) ∧ Below w.heap.size w w' := by
  go_enter Tryz.func119, Tryz.ntmps119
  go_wp2
  go_loopw [3] (fun v wr => ∃ (pos fuel k : Nat), v = .int .i64 k ∧ wr.heap[w.heap.size]? = some (.stringIter s pos) ∧ Below w.heap.size w wr ∧ Hid (nm s fuel pos k = isName s) ∧ s.size ≤ pos + fuel ∧ k ≤ 8) (fun _ wr => s.size - wr.iterPos w.heap.size)
  case atStart => exact ⟨0, s.size, 0, rfl, World.iter_heap w s 0, (Below.refl _ _).alloc (Nat.le_refl _) _, rfl, by omega, by omega⟩
  case round =>
    obtain ⟨pos, fuel, k, rfl, hit, hbw, HS, hb, hlen⟩ := hrel
    have hpos0 := iterPos_of hit
    by_cases hp : pos < s.size
    · have hnx : ∀ ty, (Instr.next (.pointer (some ⟨w.heap.size, 0, none⟩)) true ty).run Tryz.prog wr = _ := fun ty => Lib.run_next_any_at wr w.heap.size s pos ty hit hp
      have hwd := width_pos s pos hp
      obtain ⟨fuel, rfl⟩ : ∃ f', fuel = f' + 1 := ⟨fuel - 1, by omega⟩
      have hit2 := Lib.iterAt_heap wr w.heap.size s pos (pos + (Utf8.decode s pos).2) hit
      have hbw2 := Lib.below_iterAt hbw (k := w.heap.size) (Nat.le_refl _) s (pos + (Utf8.decode s pos).2)
      have hstep : Hid (isName s = if decide (8 < k + 1) || !goodR pos (Utf8.decode s pos).1 then false else nm s fuel (pos + (Utf8.decode s pos).2) (k + 1)) := by
        show _ = _
        rw [← HS.out]; simp [nm, hp]
      obtain ⟨W1, hW1⟩ : ∃ W1, W1 = wr.iterAt w.heap.size s (pos + (Utf8.decode s pos).2) := ⟨_, rfl⟩
      rw [← hW1] at hnx hit2 hbw2
      clear hW1 hit hbw HS
      obtain ⟨d, hd⟩ : ∃ d, digR (Utf8.decode s pos).1 = d := ⟨_, rfl⟩
      obtain ⟨o, ho⟩ : ∃ o, ofR (Utf8.decode s pos).1 = o := ⟨_, rfl⟩
      have hg : goodR pos (Utf8.decode s pos).1 = (o && !(decide (pos = 0) && d)) := by unfold goodR; rw [hd, ho]
      rw [hg] at hstep
      clear hg
      by_cases h8 : (8 : Int) < (k : Int) + 1 <;> cases o <;> by_cases h0 : pos = 0 <;> cases d
      all_goals
        have h9 : 8 < k + 1 ↔ (8 : Int) < (k : Int) + 1 := by omega
        simp only [h9, h8, decide_true, decide_false, h0] at hstep
        clear h9
        try subst h0
        go_wp2_with (first
          | (go_at_call 153; refine (ofName_any _ _ (by assumption) _).mono ?_; rintro e w1 ⟨rfl, rfl⟩)
          | (go_at_call 154; refine (digit_any _ _ (by assumption) _).mono ?_; rintro e w1 ⟨rfl, rfl⟩))
        first
        | (go_roundw
           case rel => exact ⟨_, fuel, k + 1, by go_num, hit2, hbw2, (by show _ = _; rw [hstep.out]; simp), by omega, by omega⟩
           case measure => rw [iterPos_of hit2, hpos0]; omega)
        | (go_ret
           exact ⟨by rw [hstep.out]; rfl, hbw2⟩)
        | (go_roundw
           case rel => exact ⟨_, fuel, k + 1, by go_num, hit2, hbw2, (by show _ = _; rw [hstep.out]; simp), by omega, by omega⟩
           case measure => rw [iterPos_of hit2, hpos0]; omega)
    · have hnx : ∀ ty, (Instr.next (.pointer (some ⟨w.heap.size, 0, none⟩)) true ty).run Tryz.prog wr = _ := fun ty => Lib.run_next_end_at wr w.heap.size s pos ty hit hp
      have e : isName s = decide (0 < k) := by rw [← HS.out]; cases fuel <;> simp [nm, hp]
      by_cases hk : 0 < k <;> simp only [hk, decide_true, decide_false] at e
      all_goals
        go_wp2
        go_ret
        exact ⟨by rw [e]; rfl, hbw⟩

/-- 'within': the rest by n, from 0 on. -/
theorem within_any (x n k : Int) (hn : 0 < n) (hm : n ≤ 9223372036854775807) (hk : x % n = k) (w : World) :
    Calls Tryz.prog 10 #[.int .i64 x, .int .i64 n] w fun e w' => e = .returned (.int .i64 k) ∧ w' = w := by
  have hn0 : ¬ n = 0 := by omega
  by_cases h : x.tmod n < 0
  · have hb : -n < x.tmod n := Int.lt_tmod_of_pos x hn
    have hw : wrap64 (x.tmod n + n) = k := by
      have e1 : x % n = x.tmod n + n := by
        have h1 := Int.emod_add_mul_ediv x n
        have h2 := Int.tmod_add_mul_tdiv x n
        have h3 : 0 ≤ x % n := Int.emod_nonneg x (by omega)
        have h4 : x % n < n := Int.emod_lt_of_pos x hn
        have h5 : (x.tmod n + n) % n = x % n := by
          rw [show x % n = (x.tmod n + n * x.tdiv n) % n by rw [h2], Int.add_emod_right, Int.add_mul_emod_self_left]
        rw [← h5]
        exact Int.emod_eq_of_lt (by omega) (by omega)
      unfold wrap64
      omega
    clear hk hm hn
    go_enter Tryz.func10, Tryz.ntmps10
    go_wp2
    go_ret
    exact ⟨by rw [← hw]; rfl, rfl⟩
  · have e1 : x.tmod n = k := by
      have h2 := Int.tmod_add_mul_tdiv x n
      have h4 : x.tmod n < n := Int.tmod_lt_of_pos x hn
      have h5 : (x.tmod n) % n = x % n := by
        rw [show x % n = (x.tmod n + n * x.tdiv n) % n by rw [h2], Int.add_mul_emod_self_left]
      rw [← hk, ← h5]
      exact (Int.emod_eq_of_lt (by omega) h4).symm
    have h' : 0 ≤ x.tmod n := by omega
    clear hk hm hn h
    rw [e1] at h'
    go_enter Tryz.func10, Tryz.ntmps10
    go_wp2
    go_ret
    exact ⟨rfl, rfl⟩

theorem name_on (s : ByteArray) (b : Bool) (w0 w : World) (hb : Below w0.heap.size w0 w) (h : isName s = b) :
    Calls Tryz.prog 119 #[.string s] w fun e w' => e = .returned (.bool b) ∧ Below w0.heap.size w0 w' := by
  subst h
  exact (name_any s w).mono fun e w' h => ⟨h.1, hb.trans (h.2.mono hb.size)⟩

end Go.Proofs.YtlehlbgaboifoabGreatDoor

/- What a walk is told of a slice of numbers that came in; cells that stay. -/
namespace Go.Proofs.YtlehlbgaboifoabGreatDoor
open Go.RowKit

/-- What is told of a slice of numbers that came in: nil, or a row of numbers in memory. -/
def IsRow (k : IntKind) (w : World) (a : Option Addr) (len cap : Nat) (zs : List Int) : Prop :=
  (a = none ∧ len = 0 ∧ cap = 0 ∧ zs = []) ∨
  ∃ x, a = some x ∧ len ≤ cap ∧ cap ≤ maxLen ∧ zs.length = cap ∧ (∀ i, i < zs.length → w.cell? (x.add i) = some (.int k (zs.getD i 0))) ∧ ∀ n ∈ zs, (Lit.int k n).wf = true

theorem block_lt {w : World} {a : Addr} {v : Value} (h : w.cell? a = some v) : a.block < w.heap.size := by
  rcases Nat.lt_or_ge a.block w.heap.size with h' | h'
  · exact h'
  · exfalso
    simp [World.cell?, Array.getElem?_eq_none h'] at h

theorem cell_below {B : Nat} {W w1 : World} (hb : Below B W w1) {a : Addr} {v : Value} (h : W.cell? a = some v) (hB : a.block < B) : w1.cell? a = some v := by
  rw [hb.cell hB]; exact h

/-- The same in one form: whatever place is asked for within the length, it is there. -/
def HasRow (w : World) (a : Option Addr) (len : Nat) (zs : List Int) : Prop :=
  len ≤ maxLen ∧ ∀ i, i < len → ∃ x, a = some x ∧ w.cell? (x.add i) = some (.int .i64 (zs.getD i 0))

theorem IsRow.has {w : World} {a : Option Addr} {len cap : Nat} {zs : List Int} (h : IsRow .i64 w a len cap zs) : HasRow w a len zs := by
  rcases h with ⟨rfl, rfl, rfl, rfl⟩ | ⟨x, rfl, hl, hm, hz, hc, _⟩
  · exact ⟨Nat.zero_le _, fun i hi => by omega⟩
  · exact ⟨by omega, fun i hi => ⟨x, rfl, hc i (by omega)⟩⟩

theorem HasRow.at {B : Nat} {w w1 : World} {a : Option Addr} {len : Nat} {zs : List Int} (h : HasRow w a len zs) (hb : Below B w w1) (hB : w.heap.size ≤ B) (i : Nat) (hi : i < len) : ∃ x z, a = some x ∧ w1.cell? (x.add i) = some (.int .i64 z) := by
  obtain ⟨x, hx, hc⟩ := h.2 i hi
  exact ⟨x, _, hx, cell_below hb hc (Nat.lt_of_lt_of_le (block_lt hc) hB)⟩

theorem cell_alloc {w : World} {a : Addr} {v : Value} (h : w.cell? a = some v) (o : Obj) : (w.alloc o).cell? a = some v :=
  cell_below ((Below.refl _ _).alloc (Nat.le_refl _) o) h (block_lt h)

end Go.Proofs.YtlehlbgaboifoabGreatDoor

/- Rows of texts: when one is a set of marks, whether all of one are among another one; the contracts of Set and All of package mark. -/
namespace Go.Proofs.YtlehlbgaboifoabGreatDoor
open Go.RowKit Go.Maps

/-- A row of texts in memory. -/
def Strs (w : World) (a : Option Addr) (ss : List ByteArray) : Prop :=
  ss.length ≤ 1000 ∧ ∀ i, i < ss.length → ∃ x, a = some x ∧ w.cell? (x.add i) = some (.string (ss.getD i ByteArray.empty))

theorem Strs.later {w w1 : World} {a : Option Addr} {ss : List ByteArray} (h : Strs w a ss) (hb : Below w.heap.size w w1) : Strs w1 a ss :=
  ⟨h.1, fun i hi => by
    obtain ⟨x, hx, hc⟩ := h.2 i hi
    exact ⟨x, hx, cell_below hb hc (block_lt hc)⟩⟩

/-- Names in rising order, behind the one ahead of them. -/
def rises : Option ByteArray → List ByteArray → Bool
  | _, [] => true
  | none, s :: l => isName s && rises (some s) l
  | some q, s :: l => isName s && Op.bytesLess q.toList s.toList && rises (some s) l
/-- Is it a set of marks? -/
def setB (l : List ByteArray) : Bool := decide (l.length ≤ 4) && rises none l
/-- Is a text among these? -/
def inB (l : List ByteArray) (s : ByteArray) : Bool := l.any fun t => t.toList == s.toList
/-- Are all of the one among the other ones? -/
def allB (of l : List ByteArray) : Bool := of.all (inB l)

/-- The one ahead of place k. -/
def ahead (l : List ByteArray) : Nat → Option ByteArray
  | 0 => none
  | k + 1 => some (l.getD k ByteArray.empty)

theorem drop_at (l : List ByteArray) (k : Nat) (h : k < l.length) : l.drop k = l.getD k ByteArray.empty :: l.drop (k + 1) := by
  rw [List.drop_eq_getElem_cons h]
  simp [List.getD, List.getElem?_eq_getElem h]

set_option maxRecDepth 100000 in
set_option maxHeartbeats 2000000 in
theorem set_any (a : Option Addr) (cap : Nat) (ss : List ByteArray) (w : World) (hS : Strs w a ss) :
    Calls Tryz.prog 141 #[.slice a ss.length cap] w fun e w' => e = .returned (.bool (setB ss)) ∧ Below w.heap.size w w' := by
  have hl := hS.1
  by_cases h4 : (4 : Int) < ss.length
  · have e : setB ss = false := by unfold setB; have : decide (ss.length ≤ 4) = false := by simp; omega
                                   rw [this]; rfl
    rw [e]
    clear e
    go_enter Tryz.func141, Tryz.ntmps141
    go_wp2
    go_ret
    exact ⟨rfl, Below.refl _ _⟩
  · have e : setB ss = rises none ss := by unfold setB; have : decide (ss.length ≤ 4) = true := by simp; omega
                                           rw [this]; rfl
    obtain ⟨A, hA⟩ : ∃ A, setB ss = A := ⟨_, rfl⟩
    have hA0 : Hid (rises (ahead ss 0) (ss.drop 0) = A) := by show _ = _; rw [← hA, e]; rfl
    rw [hA]
    clear e hA
    go_enter Tryz.func141, Tryz.ntmps141
    go_wp2
    go_loopw [10] (fun i wr => ∃ k : Nat, k ≤ ss.length ∧ i = .int .i64 k ∧ Hid (rises (ahead ss k) (ss.drop k) = A) ∧ Below w.heap.size w wr) (fun i _ => ss.length - (intOf i).toNat)
    case atStart => exact ⟨0, Nat.zero_le _, rfl, hA0, Below.refl _ _⟩
    case round =>
      obtain ⟨k, hk, rfl, HS, hbw⟩ := hrel
      clear hA0
      have hSr := hS.later hbw
      by_cases hlt : k < ss.length
      · obtain ⟨x, rfl, hcs⟩ := hSr.2 k hlt
        obtain ⟨s, hs⟩ : ∃ s, ss.getD k ByteArray.empty = s := ⟨_, rfl⟩
        have hd := drop_at ss k hlt
        rw [hs] at hd hcs
        have HN : ahead ss (k + 1) = some s := by rw [← hs]; rfl
        obtain ⟨b, hb⟩ : ∃ b, isName s = b := ⟨_, rfl⟩
        have n1 := fun W => name_any s W
        rw [hb] at n1
        rcases (by cases k with | zero => exact .inl rfl | succ m => exact .inr ⟨m, rfl⟩ : k = 0 ∨ ∃ m, k = m + 1) with rfl | ⟨m, rfl⟩
        · have H2 : Hid (A = (b && rises (some s) (ss.drop 1))) := by
            show _ = _
            rw [← HS.out, hd]; simp [ahead, rises, hb]
          have hcs0 : wr.cell? x = some (.string s) := by simpa [Addr.add] using hcs
          clear HS hd hb hS hSr hs hcs
          cases b
          · go_wp2_with (go_at_call 119; refine (n1 _).mono ?_; rintro e w8 ⟨rfl, hb8⟩)
            go_ret
            exact ⟨by rw [H2.out]; rfl, hbw.trans (hb8.mono hbw.size)⟩
          · go_wp2_with (go_at_call 119; refine (n1 _).mono ?_; rintro e w8 ⟨rfl, hb8⟩)
            go_roundw
            case rel => exact ⟨1, hlt, rfl, (by show _ = _; rw [HN, H2.out]; rfl), hbw.trans (hb8.mono hbw.size)⟩
            case measure => simp [intOf]; omega
        · obtain ⟨x', hx', hcq⟩ := hSr.2 m (by omega)
          obtain rfl : x = x' := by simpa using hx'
          obtain ⟨q, hq⟩ : ∃ q, ss.getD m ByteArray.empty = q := ⟨_, rfl⟩
          rw [hq] at hcq
          obtain ⟨c, hc⟩ : ∃ c, Op.bytesLess q.toList s.toList = c := ⟨_, rfl⟩
          have H2 : Hid (A = (b && c && rises (some s) (ss.drop (m + 1 + 1)))) := by
            show _ = _
            rw [← HS.out, hd, ← hc, ← hb, ← hq]; rfl
          have i0 : ((m : Int) + 1 - 1) = m := by omega
          have hcs1 : wr.cell? ⟨x.block, x.off + (m + 1), none⟩ = some (.string s) := by simpa [Addr.add] using hcs
          clear HS hd hb hS hSr hs hq hx' hcs
          cases b <;> cases c
          all_goals
            go_wp2_with (go_at_call 119; refine (n1 _).mono ?_; rintro e w8 ⟨rfl, hb8⟩; have hcq8 := cell_below hb8 hcq (block_lt hcq))
            first
            | (go_roundw
               case rel => exact ⟨m + 1 + 1, hlt, by go_num, (by show _ = _; rw [HN, H2.out]; rfl), hbw.trans (hb8.mono hbw.size)⟩
               case measure => simp [intOf]; omega)
            | (go_ret
               exact ⟨by rw [H2.out]; rfl, hbw.trans (hb8.mono hbw.size)⟩)
      · have e1 : k = ss.length := by omega
        have e2 : A = true := by rw [← HS.out, e1, List.drop_length]; cases ss.length <;> rfl
        subst e2
        clear hS hSr
        go_wp2
        go_ret
        exact ⟨rfl, hbw⟩

end Go.Proofs.YtlehlbgaboifoabGreatDoor

/- Blocks of variables that are known whole. -/
namespace Go.Proofs.YtlehlbgaboifoabGreatDoor
open Go.RowKit

/-- This block holds these cells. -/
def Box (w : World) (B : Nat) (cs : Array Value) (t : TypeId) : Prop := w.heap[B]? = some (.cells cs t (0, 0))

section
variable {w w' : World} {B : Nat} {cs : Array Value} {t : TypeId} {x0 x1 x2 x3 x4 x5 x6 : Value}
theorem Box.new (w : World) (cs : Array Value) (t : TypeId) (hB : w.heap.size = B) : Box (w.alloc (.cells cs t)) B cs t := by subst hB; exact heap_alloc_new w _
theorem Box.lt (h : Box w B cs t) : B < w.heap.size := (Array.getElem?_eq_some_iff.1 h).1
theorem Box.later (h : Box w B cs t) (hb : Below w.heap.size w w') : Box w' B cs t := by
  have := h.lt
  unfold Box at *
  rw [hb.block B this, h]
theorem Box.up (h : Box w B cs t) (o : Obj) : Box (w.alloc o) B cs t := h.later ((Below.refl _ _).alloc (Nat.le_refl _) o)
theorem Box.drew (h : Box w B cs t) : Box w.drew B cs t := h
theorem Box.cell (h : Box w B cs t) {i : Nat} {v : Value} (hv : cs[i]? = some v) : w.cell? ⟨B, i, none⟩ = some v := by
  unfold Box at h
  simp [World.cell?, h, hv]
theorem Box.frozen (h : Box w B cs t) (j : Nat) : w.frozen? ⟨B, j, none⟩ = false := by
  unfold Box at h; simp [World.frozen?, h]
theorem Box.set (h : Box w B cs t) (i : Nat) (v : Value) : Box (w.setCell ⟨B, i, none⟩ v) B (cs.setIfInBounds i v) t := by
  unfold Box at *
  rw [heap_setCell_same w B i _ _ _ h]
theorem Box.other (h : Box w B cs t) {b : Nat} (hne : B ≠ b) (i : Nat) (z : Value) : Box (w.setCell ⟨b, i, none⟩ z) B cs t := by
  unfold Box at *
  rw [Below.heap_setCell _ _ _ _ hne, h]
theorem Box.grown {row : Option Nat} (h : Box w B cs t) (hg : w.grownBy w' row) (hne : some B ≠ row) : Box w' B cs t := by
  have := h.lt
  unfold Box at *
  rw [hg.block B this hne, h]
theorem Box.cells7 (h : Box w B #[x0, x1, x2, x3, x4, x5, x6] t) : w.cell? ⟨B, 0, none⟩ = some x0 ∧ w.cell? ⟨B, 1, none⟩ = some x1 ∧ w.cell? ⟨B, 2, none⟩ = some x2 ∧ w.cell? ⟨B, 3, none⟩ = some x3 ∧ w.cell? ⟨B, 4, none⟩ = some x4 ∧ w.cell? ⟨B, 5, none⟩ = some x5 ∧ w.cell? ⟨B, 6, none⟩ = some x6 :=
  ⟨h.cell rfl, h.cell rfl, h.cell rfl, h.cell rfl, h.cell rfl, h.cell rfl, h.cell rfl⟩
theorem Box.cells6 (h : Box w B #[x0, x1, x2, x3, x4, x5] t) : w.cell? ⟨B, 0, none⟩ = some x0 ∧ w.cell? ⟨B, 1, none⟩ = some x1 ∧ w.cell? ⟨B, 2, none⟩ = some x2 ∧ w.cell? ⟨B, 3, none⟩ = some x3 ∧ w.cell? ⟨B, 4, none⟩ = some x4 ∧ w.cell? ⟨B, 5, none⟩ = some x5 :=
  ⟨h.cell rfl, h.cell rfl, h.cell rfl, h.cell rfl, h.cell rfl, h.cell rfl⟩
theorem Box.cells2 (h : Box w B #[x0, x1] t) : w.cell? ⟨B, 0, none⟩ = some x0 ∧ w.cell? ⟨B, 1, none⟩ = some x1 := ⟨h.cell rfl, h.cell rfl⟩
end

theorem fin {w W w3 : World} (h3 : Below W.heap.size W w3) (h : Below w.heap.size w W) : Below w.heap.size w w3 := h.trans (h3.mono h.size)
theorem grown_set (w : World) (b i : Nat) (v : Value) : w.grownBy (w.setCell ⟨b, i, none⟩ v) (some b) := by
  have h := (Below.refl 0 w).setCell (p := ⟨b, i, none⟩) (Nat.zero_le _) v
  exact ⟨h.os, h.tape, h.output, h.size, fun k _ hne => Below.heap_setCell w _ v k (fun e => hne (by rw [e]))⟩
theorem grown_trans {w w1 w2 : World} {q : Option Nat} (h : w.grownBy w1 q) (h2 : w1.grownBy w2 q) : w.grownBy w2 q :=
  ⟨h2.os.trans h.os, h2.tape.trans h.tape, h2.output.trans h.output, Nat.le_trans h.size h2.size, fun k hk hne => by rw [h2.block k (Nat.lt_of_lt_of_le hk h.size) hne, h.block k hk hne]⟩
theorem below_grown {w w' : World} (h : Below w.heap.size w w') (q : Option Nat) : w.grownBy w' q := ⟨h.os, h.tape, h.output, h.size, fun k hk _ => h.block k hk⟩
theorem up {w W : World} (h : Below w.heap.size w W) (o : Obj) : Below w.heap.size w (W.alloc o) := h.alloc h.size o

end Go.Proofs.YtlehlbgaboifoabGreatDoor

/- The phases of a gang: verdicts, polls: state, ends, outcome. -/
namespace Go.Proofs.YtlehlbgaboifoabGreatDoor
open Go.RowKit
set_option linter.unusedSimpArgs false
set_option linter.unusedVariables false

theorem mth_v_state (n : Value) (w : World) : (method 391 140 n "joinery/coord.state").run Tryz.prog w = .ok (262, n) w := by kernel_rfl
theorem mth_v_ends (n : Value) (w : World) : (method 391 140 n "joinery/coord.ends").run Tryz.prog w = .ok (261, n) w := by kernel_rfl
theorem mth_v_word (n : Value) (w : World) : (method 391 140 n "joinery/coord.word").run Tryz.prog w = .ok (263, n) w := by kernel_rfl
theorem nil_v_state (n : Int) (w : World) : (nilAhead 391 140 (.int .i64 n) "joinery/coord.state").run Tryz.prog w = .ok (some false) w := by kernel_rfl
theorem nil_v_ends (n : Int) (w : World) : (nilAhead 391 140 (.int .i64 n) "joinery/coord.ends").run Tryz.prog w = .ok (some false) w := by kernel_rfl
theorem nil_v_word (n : Int) (w : World) : (nilAhead 391 140 (.int .i64 n) "joinery/coord.word").run Tryz.prog w = .ok (some false) w := by kernel_rfl
theorem mth_p_state (a : Addr) (w : World) : (method 391 92 (.pointer (some a)) "joinery/coord.state").run Tryz.prog w = .ok (259, .pointer (some a)) w := by kernel_rfl
theorem mth_p_ends (a : Addr) (w : World) : (method 391 92 (.pointer (some a)) "joinery/coord.ends").run Tryz.prog w = .ok (258, .pointer (some a)) w := by kernel_rfl
theorem mth_p_word (a : Addr) (w : World) : (method 391 92 (.pointer (some a)) "joinery/coord.word").run Tryz.prog w = .ok (260, .pointer (some a)) w := by kernel_rfl
theorem nil_p_state (a : Addr) (w : World) : (nilAhead 391 92 (.pointer (some a)) "joinery/coord.state").run Tryz.prog w = .ok (some false) w := by kernel_rfl
theorem nil_p_ends (a : Addr) (w : World) : (nilAhead 391 92 (.pointer (some a)) "joinery/coord.ends").run Tryz.prog w = .ok (some false) w := by kernel_rfl
theorem nil_p_word (a : Addr) (w : World) : (nilAhead 391 92 (.pointer (some a)) "joinery/coord.word").run Tryz.prog w = .ok (some false) w := by kernel_rfl

theorem v_state_any (n : Int) (w : World) : Calls Tryz.prog 262 #[.int .i64 n] w fun e w' => e = .returned (.int .i64 n) ∧ w' = w := by
  go_enter Tryz.func262, Tryz.ntmps262
  go_wp2
  go_ret
  exact ⟨rfl, rfl⟩
theorem v_ends_any (n : Nat) (w : World) : Calls Tryz.prog 261 #[.int .i64 n] w fun e w' => e = .returned (.int .i64 (if n = 5 then 10 else 6)) ∧ w' = w := by
  by_cases h : n = 5
  · subst h
    go_enter Tryz.func261, Tryz.ntmps261
    go_wp2
    go_ret
    exact ⟨rfl, rfl⟩
  · have h1 : ((n : Int) == 5) = false := by simp; omega
    rw [if_neg h]
    go_enter Tryz.func261, Tryz.ntmps261
    go_wp2
    go_ret
    exact ⟨rfl, rfl⟩
theorem p_state_any (P : Nat) (n : Int) (w : World) (h : w.cell? ⟨P, 0, none⟩ = some (.int .i64 n)) : Calls Tryz.prog 259 #[.pointer (some ⟨P, 0, none⟩)] w fun e w' => e = .returned (.int .i64 n) ∧ w' = w := by
  go_enter Tryz.func259, Tryz.ntmps259
  go_wp2
  go_ret
  exact ⟨rfl, rfl⟩
theorem p_ends_any (P : Nat) (n : Int) (w : World) (h : w.cell? ⟨P, 1, none⟩ = some (.int .i64 n)) : Calls Tryz.prog 258 #[.pointer (some ⟨P, 0, none⟩)] w fun e w' => e = .returned (.int .i64 n) ∧ w' = w := by
  go_enter Tryz.func258, Tryz.ntmps258
  go_wp2
  go_ret
  exact ⟨rfl, rfl⟩

/-- What a record of a coordinator leaves a gang in. -/
def outS (k : Nat) : Nat := if k = 7 then 4 else if k = 4 then 3 else if k = 6 then 5 else 0
theorem outcome_any (k : Nat) (w : World) : Calls Tryz.prog 108 #[.int .i64 k] w fun e w' => e = .returned (.tuple #[.int .i64 (outS k), .bool (decide (outS k ≠ 0))]) ∧ w' = w := by
  unfold outS
  by_cases h7 : k = 7
  · subst h7
    go_enter Tryz.func108, Tryz.ntmps108
    go_wp2
    go_ret2
    exact ⟨rfl, rfl⟩
  by_cases h4 : k = 4
  · subst h4
    go_enter Tryz.func108, Tryz.ntmps108
    go_wp2
    go_ret2
    exact ⟨rfl, rfl⟩
  by_cases h6 : k = 6
  · subst h6
    go_enter Tryz.func108, Tryz.ntmps108
    go_wp2
    go_ret2
    exact ⟨rfl, rfl⟩
  have e7 : ((k : Int) == 7) = false := by simp; omega
  have e4 : ((k : Int) == 4) = false := by simp; omega
  have e6 : ((k : Int) == 6) = false := by simp; omega
  simp only [if_neg h7, if_neg h4, if_neg h6]
  go_enter Tryz.func108, Tryz.ntmps108
  go_wp2
  go_ret2
  exact ⟨rfl, rfl⟩

theorem ta_poll (p : Value) (w : World) : (Instr.typeAssert (.iface 92 p) 81 92 true).run Tryz.prog w = .ok (.tuple #[p, .bool true]) w := by kernel_rfl
theorem ta_verd (p : Value) (w : World) : (Instr.typeAssert (.iface 140 p) 81 92 true).run Tryz.prog w = .ok (.tuple #[.pointer none, .bool false]) w := by kernel_rfl
theorem poll_yes (b P : Nat) (w : World) (h : w.cell? ⟨b, 3, none⟩ = some (.iface 92 (.pointer (some ⟨P, 0, none⟩)))) : Calls Tryz.prog 40 #[.pointer (some ⟨b, 0, none⟩)] w fun e w' => e = .returned (.tuple #[.pointer (some ⟨P, 0, none⟩), .bool true]) ∧ w' = w := by
  have t1 := fun W => ta_poll (.pointer (some ⟨P, 0, none⟩)) W
  go_enter Tryz.func40, Tryz.ntmps40
  go_wp2
  go_ret2
  exact ⟨rfl, rfl⟩
theorem poll_no (b : Nat) (n : Int) (w : World) (h : w.cell? ⟨b, 3, none⟩ = some (.iface 140 (.int .i64 n))) : Calls Tryz.prog 40 #[.pointer (some ⟨b, 0, none⟩)] w fun e w' => e = .returned (.tuple #[.pointer none, .bool false]) ∧ w' = w := by
  have t1 := fun W => ta_verd (.int .i64 n) W
  go_enter Tryz.func40, Tryz.ntmps40
  go_wp2
  go_ret2
  exact ⟨rfl, rfl⟩

set_option maxHeartbeats 1000000 in
theorem v_word_any (n s : Nat) (w : World) (h1 : 3 ≤ n) (h2 : n ≤ 5) : Calls Tryz.prog 263 #[.int .i64 n, .int .i64 s] w fun e w' => e = .returned (.agg #[.int .i64 (if n = 5 then 9 else 5), .int .i64 0, .int .i64 0, .int .i64 0, .slice none 0 0, .slice none 0 0, .bool (decide (n = 3))]) ∧ Below w.heap.size w w' := by
  rcases (show n = 3 ∨ n = 4 ∨ n = 5 by omega) with rfl | rfl | rfl
  all_goals
    go_enter Tryz.func263, Tryz.ntmps263
    go_wp2
    refine bodyPost_ret (by simp [results, Tryz.results263, go_sem]) rfl ⟨rfl, ?_⟩
    exact up (Below.refl _ _) _

end Go.Proofs.YtlehlbgaboifoabGreatDoor
