/- The lines of one number, read again. -/
import Derived.Test.YtlehlbgaboifoabGreatDoorMg13
import Derived.Test.YtlehlbgaboifoabGreatDoorMg14
import Derived.Test.YtlehlbgaboifoabGreatDoorMg15
namespace Go.Proofs.YtlehlbgaboifoabGreatDoor
open Go.RowKit
set_option linter.unusedSimpArgs false
set_option linter.unusedVariables false

theorem word_verb (u : List UInt8) (x : List UInt8) (hu : Clean u) (hne : u ≠ []) : wordF (-1) (-1) (bs (u ++ 32 :: x)) = (bs u, 32, bs x) := by
  rw [wordF_text (-1) u (32 :: x) hu hne ⟨by decide, by decide⟩]
  rfl

theorem bs_size (l : List UInt8) : (bs l).size = l.length := by show l.toArray.size = _; simp

theorem numF_last (g : Nat) (hg : g ≤ 999999) : numF 32 32 (bs (dig g)) = (g, -2, ⟨#[]⟩) := by
  have := numF_text 32 g [] (by omega) trivial
  rw [List.append_nil] at this
  rw [this]
  rfl

theorem gangE_ok (g : Nat) (h1 : 1 ≤ g) (h2 : g ≤ 999999) : gangE g = 0 := by
  unfold gangE
  rw [if_neg (by omega)]

theorem dig_six (g : Nat) (hg : g ≤ 999999) : (dig g).length ≤ 6 := dig_len 5 g (by omega)

/-- The line of a record of one number. -/
def oneT (k g : Nat) : List UInt8 := (verbB k).data.toList ++ numT 32 g


theorem parse_one_four (g : Nat) (w : World) (h1 : 1 ≤ g) (h2 : g ≤ 999999) : Calls Tryz.prog 111 #[.string (bs (oneT 4 g))] w fun e w' => e = .returned (.tuple #[.agg #[.int .i64 4, .int .i64 g, .slice none 0 0, .slice none 0 0, .string ⟨#[]⟩, .int .i64 0, .int .i64 0, .slice none 0 0, .slice none 0 0, .bool false], .int .i64 0]) ∧ Below w.heap.size w w' := by
  have hl := dig_six g h2
  have hc : Clean (verbB 4).data.toList := clean_of _ (by decide)
  have hk : kindR (bs (verbB 4).data.toList) 7 1 = 4 := by decide +kernel
  have hT := word_verb (verbB 4).data.toList (dig g) hc (by decide)
  refine parse_four_ok (bs (oneT 4 g)) (bs (verbB 4).data.toList, 32, bs (dig g)) (g, -2, ⟨#[]⟩) w ?_ hT hk (numF_last g h2) (by rw [bs_size]; omega) rfl (gangE_ok g h1 h2)
  rw [bs_size]
  simp only [oneT, numT, List.length_append, List.length_cons]
  have : (verbB 4).data.toList.length ≤ 10 := by decide
  have hl' : (Lib.decDigits g).length ≤ 6 := hl
  omega

theorem parse_one_five (g : Nat) (w : World) (h1 : 1 ≤ g) (h2 : g ≤ 999999) : Calls Tryz.prog 111 #[.string (bs (oneT 5 g))] w fun e w' => e = .returned (.tuple #[.agg #[.int .i64 5, .int .i64 g, .slice none 0 0, .slice none 0 0, .string ⟨#[]⟩, .int .i64 0, .int .i64 0, .slice none 0 0, .slice none 0 0, .bool false], .int .i64 0]) ∧ Below w.heap.size w w' := by
  have hl := dig_six g h2
  have hc : Clean (verbB 5).data.toList := clean_of _ (by decide)
  have hk : kindR (bs (verbB 5).data.toList) 7 1 = 5 := by decide +kernel
  have hT := word_verb (verbB 5).data.toList (dig g) hc (by decide)
  refine parse_five_ok (bs (oneT 5 g)) (bs (verbB 5).data.toList, 32, bs (dig g)) (g, -2, ⟨#[]⟩) w ?_ hT hk (numF_last g h2) (by rw [bs_size]; omega) rfl (gangE_ok g h1 h2)
  rw [bs_size]
  simp only [oneT, numT, List.length_append, List.length_cons]
  have : (verbB 5).data.toList.length ≤ 10 := by decide
  have hl' : (Lib.decDigits g).length ≤ 6 := hl
  omega

theorem parse_one_six (g : Nat) (w : World) (h1 : 1 ≤ g) (h2 : g ≤ 999999) : Calls Tryz.prog 111 #[.string (bs (oneT 6 g))] w fun e w' => e = .returned (.tuple #[.agg #[.int .i64 6, .int .i64 g, .slice none 0 0, .slice none 0 0, .string ⟨#[]⟩, .int .i64 0, .int .i64 0, .slice none 0 0, .slice none 0 0, .bool false], .int .i64 0]) ∧ Below w.heap.size w w' := by
  have hl := dig_six g h2
  have hc : Clean (verbB 6).data.toList := clean_of _ (by decide)
  have hk : kindR (bs (verbB 6).data.toList) 7 1 = 6 := by decide +kernel
  have hT := word_verb (verbB 6).data.toList (dig g) hc (by decide)
  refine parse_six_ok (bs (oneT 6 g)) (bs (verbB 6).data.toList, 32, bs (dig g)) (g, -2, ⟨#[]⟩) w ?_ hT hk (numF_last g h2) (by rw [bs_size]; omega) rfl (gangE_ok g h1 h2)
  rw [bs_size]
  simp only [oneT, numT, List.length_append, List.length_cons]
  have : (verbB 6).data.toList.length ≤ 10 := by decide
  have hl' : (Lib.decDigits g).length ≤ 6 := hl
  omega

end Go.Proofs.YtlehlbgaboifoabGreatDoor

/- A tape's row: lines and a sign; the contracts of signAt and lines of package tape. -/
namespace Go.Proofs.YtlehlbgaboifoabGreatDoor
open Go.RowKit
set_option linter.unusedSimpArgs false
set_option linter.unusedVariables false

/-- What stands at a place of a tape's row: nothing, the sign, a line. -/
inductive TC where
  | nul
  | sgn
  | line (s : ByteArray)
  deriving Inhabited

def encC : TC → Value
  | .nul => .nilIface
  | .sgn => .iface 21 (.int .i32 124)
  | .line s => .iface 9 (.string s)

/-- Is it the sign? -/
def isSg : TC → Bool
  | .sgn => true
  | _ => false
/-- Its line. -/
def lnC : TC → Option ByteArray
  | .line s => some s
  | _ => none
/-- The lines of a row. -/
abbrev linesC (r : List TC) : List ByteArray := r.filterMap lnC
/-- Where the last sign stands among the first k ones. -/
def lastS (r : List TC) : Nat → Int
  | 0 => -1
  | k + 1 => if isSg (r.getD k .nul) then k else lastS r k

/-- A tape's row in memory. -/
def Cs (w : World) (a : Option Addr) (r : List TC) : Prop := r.length ≤ 1000000 ∧ ∀ i, i < r.length → ∃ x, a = some x ∧ w.cell? (x.add i) = some (encC (r.getD i .nul))

theorem Cs.later {w w1 : World} {a : Option Addr} {r : List TC} (h : Cs w a r) (hb : Below w.heap.size w w1) : Cs w1 a r :=
  ⟨h.1, fun i hi => by
    obtain ⟨x, hx, hc⟩ := h.2 i hi
    exact ⟨x, hx, cell_below hb hc (block_lt hc)⟩⟩

theorem enc_one (x : TC) : (encC x).oneCell' = true := by cases x <;> rfl

theorem as_sgn (w : World) : (Instr.typeAssert (.iface 21 (.int .i32 124)) 20 21 true).run Tryz.prog w = .ok (.tuple #[.int .i32 124, .bool true]) w := by kernel_rfl
theorem as_sgn_nul (w : World) : (Instr.typeAssert .nilIface 20 21 true).run Tryz.prog w = .ok (.tuple #[.int .i32 0, .bool false]) w := by kernel_rfl
theorem as_sgn_line (s : ByteArray) (w : World) : (Instr.typeAssert (.iface 9 (.string s)) 20 21 true).run Tryz.prog w = .ok (.tuple #[.int .i32 0, .bool false]) w := by kernel_rfl
theorem as_line (s : ByteArray) (w : World) : (Instr.typeAssert (.iface 9 (.string s)) 20 9 true).run Tryz.prog w = .ok (.tuple #[.string s, .bool true]) w := by kernel_rfl
theorem as_line_nul (w : World) : (Instr.typeAssert .nilIface 20 9 true).run Tryz.prog w = .ok (.tuple #[.string ⟨#[]⟩, .bool false]) w := by kernel_rfl
theorem as_line_sgn (w : World) : (Instr.typeAssert (.iface 21 (.int .i32 124)) 20 9 true).run Tryz.prog w = .ok (.tuple #[.string ⟨#[]⟩, .bool false]) w := by kernel_rfl

set_option maxRecDepth 100000 in
set_option maxHeartbeats 2000000 in
theorem signAt_any (a : Option Addr) (c : Nat) (r : List TC) (w : World) (h : Cs w a r) :
    Calls Tryz.prog 62 #[.slice a r.length c] w fun e w' => e = .returned (.int .i64 (lastS r r.length)) ∧ w' = w := by
  have hl := h.1
  have A1 := as_sgn
  have A2 := as_sgn_nul
  have A3 := as_sgn_line
  go_enter Tryz.func62, Tryz.ntmps62
  go_wp2
  go_loopw [3] (fun i wr => ∃ k : Nat, k ≤ r.length ∧ i = .int .i64 ((k : Int) - 1) ∧ Hid (lastS r k = lastS r r.length) ∧ wr = w) (fun i _ => ((intOf i) + 1).toNat)
  case atStart => exact ⟨r.length, Nat.le_refl _, rfl, rfl, rfl⟩
  case round =>
    obtain ⟨k, hk, rfl, HS, rfl⟩ := hrel
    cases k with
    | zero =>
      have e1 : lastS r r.length = -1 := HS.out.symm
      have hi : (((0 : Nat) : Int) - 1) = -1 := rfl
      rw [hi]
      clear HS hi
      go_wp2
      go_ret
      exact ⟨by rw [e1]; rfl, rfl⟩
    | succ k =>
      obtain ⟨x, rfl, hc⟩ := h.2 k (by omega)
      have hi : (((k + 1 : Nat) : Int) - 1) = k := by omega
      rw [hi]
      obtain ⟨t, ht⟩ : ∃ t, r.getD k .nul = t := ⟨_, rfl⟩
      rw [ht] at hc
      have HN : Hid (lastS r r.length = if isSg t then (k : Int) else lastS r k) := by show _ = _; rw [← HS.out, lastS, ht]
      clear HS ht hi h
      cases t with
      | nul =>
        simp only [encC] at hc
        go_wp2
        go_roundw
        case rel => exact ⟨k, by omega, rfl, (by show _ = _; rw [HN.out]; rfl), trivial⟩
        case measure => simp [intOf]
      | sgn =>
        simp only [encC] at hc
        go_wp2
        go_ret
        exact ⟨by rw [HN.out]; rfl, rfl⟩
      | line s =>
        simp only [encC] at hc
        go_wp2
        go_roundw
        case rel => exact ⟨k, by omega, rfl, (by show _ = _; rw [HN.out]; rfl), trivial⟩
        case measure => simp [intOf]

theorem mk_strs (n : Nat) (hn : n ≤ 1000000) (w : World) :
    ∃ cur : Array Value, cur.size = n * 1 ∧ (Instr.makeSlice 58 (.int .i64 0) (.int .i64 n)).run Tryz.prog w = .ok (.slice (some ⟨w.heap.size, 0, none⟩) 0 n) (w.alloc (.cells cur 9)) := by
  obtain ⟨i0, hi, hz0, hz1, hz2⟩ := info_parts info9
  have h := run_make (P := Tryz.prog) w 58 9 i0 _ Tryz.underlying58 hi hz0 .i64 .i64 0 n (by omega) (by omega) (by rw [hz2]; omega) (by omega)
  refine ⟨_, ?_, by simpa using h⟩
  rw [hz1]
  simp [madeCells, Value.cells]

theorem str_one (ts : List ByteArray) : ∀ u ∈ ts.map Value.string, u.oneCell' = true := by
  intro u hu
  obtain ⟨x, _, rfl⟩ := List.mem_map.1 hu
  rfl

theorem drop_c (r : List TC) (k : Nat) (h : k < r.length) : r.drop k = r.getD k .nul :: r.drop (k + 1) := by
  rw [List.drop_eq_getElem_cons h]
  simp [List.getD, List.getElem?_eq_getElem h]

set_option maxRecDepth 100000 in
set_option maxHeartbeats 4000000 in
theorem lines_any (a : Option Addr) (c : Nat) (r : List TC) (w : World) (h : Cs w a r) :
    Calls Tryz.prog 64 #[.slice a r.length c] w fun e w' => ∃ v, e = .returned v ∧ w'.ownsRow w.heap.size 9 1 v (linesC r).length ((linesC r).map Value.string) ∧ Below w.heap.size w w' := by
  have hl := h.1
  obtain ⟨cur, hcur, hmk⟩ := mk_strs r.length hl w
  have hrow0 : (w.alloc (.cells cur 9)).ownsRow w.heap.size 9 1 (.slice (some ⟨w.heap.size, 0, none⟩) 0 r.length) 0 [] := World.ownsRow_made w cur r.length (Nat.le_refl _) (by unfold maxLen; omega) hcur
  have hb1 : Below w.heap.size w (w.alloc (.cells cur 9)) := up (Below.refl _ _) _
  obtain ⟨i0, hi, hz0, hz1, hz2⟩ := info_parts info9
  go_enter Tryz.func64, Tryz.ntmps64
  go_wp2
  clear hmk hcur
  go_loopw [3, 13] (fun v i wr => ∃ (k : Nat) (xs : List ByteArray), k ≤ r.length ∧ i = .int .i64 k ∧ wr.ownsRow w.heap.size 9 1 v xs.length (xs.map Value.string) ∧ xs.length ≤ k ∧ Hid (xs ++ linesC (r.drop k) = linesC r) ∧ Below w.heap.size w wr) (fun _ i _ => r.length - (intOf i).toNat)
  case atStart => exact ⟨0, [], Nat.zero_le _, rfl, hrow0, Nat.le_refl _, rfl, hb1⟩
  case round =>
    obtain ⟨k, xs, hk, rfl, hown, hxk, HS, hbw⟩ := hrel
    have hr := h.later hbw
    by_cases hlt : k < r.length
    · obtain ⟨x, rfl, hc⟩ := hr.2 k hlt
      have hd := drop_c r k hlt
      obtain ⟨t, ht⟩ : ∃ t, r.getD k .nul = t := ⟨_, rfl⟩
      rw [ht] at hc hd
      have hsz : w.heap.size ≤ wr.heap.size := hbw.size
      have A1 := as_sgn
      have A2 := as_sgn_nul
      have A3 := as_sgn_line
      have A4 := as_line
      have A5 := as_line_nul
      have A6 := as_line_sgn
      cases t with
      | nul =>
        have HN : Hid (xs ++ linesC (r.drop (k + 1)) = linesC r) := by show _ = _; rw [← HS.out, hd]; rfl
        simp only [encC] at hc
        clear HS hd ht hr h hrow0
        go_wp2
        go_roundw
        case rel => exact ⟨k + 1, xs, hlt, by go_num, hown, by omega, HN, hbw⟩
        case measure => simp [intOf]; omega
      | sgn =>
        have HN : Hid (xs ++ linesC (r.drop (k + 1)) = linesC r) := by show _ = _; rw [← HS.out, hd]; rfl
        simp only [encC] at hc
        clear HS hd ht hr h hrow0
        go_wp2
        go_roundw
        case rel => exact ⟨k + 1, xs, hlt, by go_num, hown, by omega, HN, hbw⟩
        case measure => simp [intOf]; omega
      | line s =>
        have HN : Hid ((xs ++ [s]) ++ linesC (r.drop (k + 1)) = linesC r) := by show _ = _; rw [← HS.out, hd]; simp [linesC, lnC]
        simp only [encC] at hc
        clear HS hd ht hr h hrow0
        go_wp2_with (first
          | (at_builtin; refine wpList_append_own _ rfl _ _ 58 rfl w.heap.size 9 i0 (.string ByteArray.empty) 1 16 Tryz.underlying58 hi hz0 hz1 hz2 rfl (by decide) _ _ _ rfl (hown.alloc _) ⟨_, 0, none⟩ 1 1 [.string s] rfl rfl (cell_one_new _ _ _) (fun u hu => by simp at hu; subst hu; rfl) (by unfold maxLen; omega) (by omega) (by simp; omega) ?_
             intro v2 w2 hown2 hg2 hnil))
        go_roundw
        case rel => exact ⟨k + 1, xs ++ [s], hlt, by go_num, (by simpa using hown2), by simp; omega, HN, (hbw.alloc hsz _).grown hg2 (by simp; omega) (fun k hk => (hown.lt k hk).1)⟩
        case measure => simp [intOf]; omega
    · have e1 : k = r.length := by omega
      have e2 : xs = linesC r := by rw [← HS.out, e1, List.drop_length]; simp [linesC]
      have d1 : decide ((k : Int) < r.length) = false := by simp [e1]
      clear HS hr h hrow0
      go_wp2
      go_ret
      exact ⟨_, rfl, e2 ▸ hown, hbw⟩

end Go.Proofs.YtlehlbgaboifoabGreatDoor
