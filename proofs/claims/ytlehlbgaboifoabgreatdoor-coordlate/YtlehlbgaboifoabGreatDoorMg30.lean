/- A coordinator: State, force, decide; what preparing makes. -/
import Derived.Test.YtlehlbgaboifoabGreatDoorMg27
import Derived.Test.YtlehlbgaboifoabGreatDoorMg20
import Derived.Deep.DeepCutAuto
namespace Go.Proofs.YtlehlbgaboifoabGreatDoor
open Go.RowKit Go.Maps Go.Shelf
set_option linter.unusedSimpArgs false
set_option linter.unusedVariables false

def Ph.state : Ph → Nat
  | .nul => 0
  | .hold _ _ => 1
  | .prep _ => 2
  | .dec n => n
def stateC (x : CoS) (i : Int) : Nat := match look x.M i with
  | some g => g.ph.state
  | none => 0

section
variable {w : World} {C T m : Nat} {v : Value} {col : Nat → Int} {x : CoS}
theorem CoP.c0 (h : CoP w C T m v col x) : w.cell? ⟨C, 0, none⟩ = some (.int .i64 x.n) := h.box.cell rfl
theorem CoP.c1 (h : CoP w C T m v col x) : w.cell? ⟨C, 1, none⟩ = some (.pointer (some ⟨T, 0, none⟩)) := h.box.cell rfl
theorem CoP.c2 (h : CoP w C T m v col x) : w.cell? ⟨C, 2, none⟩ = some (.map (some m)) := h.box.cell rfl
theorem CoP.at_ (h : CoP w C T m v col x) {i : Int} {g : GS} (hl : look x.M i = some g) : GangAt w C (fun b => col b = i) i.toNat g ∧ 1 ≤ i ∧ i ≤ 999999 := ⟨h.ok _ (mem_of_look hl), h.pos _ (mem_of_look hl)⟩

theorem sync_co (h : CoP w C T m v col x) (hl : x.A.length + x.L.length < 999990) :
    Calls Tryz.prog 85 #[.pointer (some ⟨T, 0, none⟩)] w fun e w' => e = .returned (.tuple #[]) ∧ ∃ v' col', CoP w' C T m v' col' { x with A := x.A ++ x.L, L := [], s := true } ∧ Turn w w' (inC col) (inC col') := by
  refine (sync_any w T v x.A x.L x.s h.tp h.ts (by omega)).mono ?_
  rintro e w' ⟨he, v', h5, h6, h7⟩
  obtain ⟨col', h8, h9⟩ := h.tape h5 (fun e => by cases e) h6 h7
  exact ⟨he, v', col', h8, h9⟩
theorem write_co (h : CoP w C T m v col x) (hl : x.A.length + x.L.length < 999990) (x0 x1 x2 x3 x4 x5 x6 x7 x8 x9 : Value) (t : ByteArray)
    (kc : ∀ W, Below w.heap.size w W → Calls Tryz.prog 34 #[.agg #[x0, x1, x2, x3, x4, x5, x6, x7, x8, x9]] W fun e W' => e = .returned (.int .i64 0) ∧ Below W.heap.size W W')
    (kt : ∀ W, Below w.heap.size w W → Calls Tryz.prog 122 #[.agg #[x0, x1, x2, x3, x4, x5, x6, x7, x8, x9]] W fun e W' => e = .returned (.string t) ∧ Below W.heap.size W W') :
    Calls Tryz.prog 84 #[.pointer (some ⟨T, 0, none⟩), .agg #[x0, x1, x2, x3, x4, x5, x6, x7, x8, x9]] w fun e w' => e = .returned (.tuple #[]) ∧ ∃ v' col', CoP w' C T m v' col' { x with L := x.L ++ [t] } ∧ Turn w w' (inC col) (inC col') := by
  refine (write_any w T v x.A x.L x.s x0 x1 x2 x3 x4 x5 x6 x7 x8 x9 t h.tp hl kc kt).mono ?_
  rintro e w' ⟨he, v', h5, h6, h7⟩
  obtain ⟨col', h8, h9⟩ := h.tape h5 h.ts h6 h7
  exact ⟨he, v', col', h8, h9⟩

/-- A record is forced. -/
def recC (x : CoS) (t : ByteArray) : CoS := { x with A := x.A ++ (x.L ++ [t]), L := [], s := true }

set_option maxRecDepth 100000 in
set_option maxHeartbeats 2000000 in
theorem force_co (h : CoP w C T m v col x) (hl : x.A.length + x.L.length < 999980) (x0 x1 x2 x3 x4 x5 x6 x7 x8 x9 : Value) (t : ByteArray)
    (kc : ∀ W, Below w.heap.size w W → Calls Tryz.prog 34 #[.agg #[x0, x1, x2, x3, x4, x5, x6, x7, x8, x9]] W fun e W' => e = .returned (.int .i64 0) ∧ Below W.heap.size W W')
    (kt : ∀ W, Below w.heap.size w W → Calls Tryz.prog 122 #[.agg #[x0, x1, x2, x3, x4, x5, x6, x7, x8, x9]] W fun e W' => e = .returned (.string t) ∧ Below W.heap.size W W') :
    Calls Tryz.prog 35 #[ptr C, .agg #[x0, x1, x2, x3, x4, x5, x6, x7, x8, x9]] w fun e w' => e = .returned (.tuple #[]) ∧ ∃ v' col', CoP w' C T m v' col' (recC x t) ∧ Turn w w' (inC col) (inC col') := by
  have hb0 := up (Below.refl w.heap.size w) (.cells #[x0, x1, x2, x3, x4, x5, x6, x7, x8, x9] 88)
  have h1 := h.later hb0.drew
  have hw := write_co h1 (by omega) x0 x1 x2 x3 x4 x5 x6 x7 x8 x9 t (fun W hb => kc W (fin hb hb0.drew)) (fun W hb => kt W (fin hb hb0.drew))
  have c2 := h1.c1
  have c2' : (w.alloc (.cells #[x0, x1, x2, x3, x4, x5, x6, x7, x8, x9] 88)).cell? ⟨C, 1, none⟩ = some (.pointer (some ⟨T, 0, none⟩)) := (h.later hb0).c1
  have hT0 : Turn w (w.alloc (.cells #[x0, x1, x2, x3, x4, x5, x6, x7, x8, x9] 88)).drew (inC col) (inC col) := .of_below hb0.drew
  clear h h1 kc kt
  go_enter Tryz.func35, Tryz.ntmps35
  go_wp2
  go_region_with (go_at_call 84; refine hw.mono ?_; rintro e w2 ⟨rfl, v2, col2, h2, hT2⟩; have c22 := h2.c1; have hs := sync_co h2 (by simp; omega))
  all_goals
    go_wp2_with (go_at_call 85; refine hs.mono ?_; rintro e w3 ⟨rfl, v3, col3, h3, hT3⟩)
    go_end0
    exact ⟨rfl, v3, col3, h3, (hT0.trans hT2).trans hT3⟩

/-- The record of a decision. -/
def decT (k g : Nat) : ByteArray := bs (oneT k g)

theorem check6 (g : Nat) (W : World) (h1 : 1 ≤ g) (h2 : g ≤ 999999) : Calls Tryz.prog 34 #[.agg #[.int .i64 6, .int .i64 g, .slice none 0 0, .slice none 0 0, .string ⟨#[]⟩, .int .i64 0, .int .i64 0, .slice none 0 0, .slice none 0 0, .bool false]] W fun e W' => e = .returned (.int .i64 0) ∧ Below W.heap.size W W' := by
  have k := check_six g W
  rw [gangE_ok g h1 h2] at k
  exact k

end

end Go.Proofs.YtlehlbgaboifoabGreatDoor

/- A coordinator: decide. -/
namespace Go.Proofs.YtlehlbgaboifoabGreatDoor
open Go.RowKit Go.Maps Go.Shelf
set_option linter.unusedSimpArgs false
set_option linter.unusedVariables false

section
variable {w : World} {C T m : Nat} {v : Value} {col : Nat → Int} {x : CoS}
set_option maxRecDepth 100000 in
set_option maxHeartbeats 1000000 in
theorem decide_co (h : CoP w C T m v col x) (hB : TabB w.heap.size w) (hl : x.A.length + x.L.length < 999980) {i : Nat} {g : GS} (hg : look x.M (i : Int) = some g) (k : Nat) (hk : k = 4 ∨ k = 6) :
    Calls Tryz.prog 61 #[ptr C, ptr g.b, .int .i64 k] w fun e w' => ∃ v2 v' col', e = .returned v2 ∧ MsgsN w w' v2 (toAll i g.ps (.dec (outS k))) ∧ CoP w' C T m v' col' { recC x (decT k i) with M := upd x.M (i : Int) (g.at (.dec (outS k))) } ∧ Turn w w' (inC col) (inC col') := by
  obtain ⟨hG, hi1, hi2⟩ := h.at_ hg
  obtain ⟨R, pa, pc, wv, vv, hG⟩ := hG
  have cb : w.cell? ⟨g.b, 0, none⟩ = some (.int .i64 i) := hG.box.cell rfl
  have kf := force_co h hl (.int .i64 k) (.int .i64 i) (.slice none 0 0) (.slice none 0 0) (.string ⟨#[]⟩) (.int .i64 0) (.int .i64 0) (.slice none 0 0) (.slice none 0 0) (.bool false) (decT k i)
    (fun W _ => by rcases hk with rfl | rfl
                   · exact check4 i W (by omega) (by omega)
                   · exact check6 i W (by omega) (by omega))
    (fun W hb => by rcases hk with rfl | rfl
                    · exact text_four i W (by omega) ((hB.later hb (Nat.le_refl _)).up hb.size)
                    · exact text_six i W (by omega) ((hB.later hb (Nat.le_refl _)).up hb.size))
  have ko := outcome_any k
  have h35 : 3 ≤ outS k ∧ outS k ≤ 5 := by rcases hk with rfl | rfl <;> decide
  obtain ⟨n, hn⟩ : ∃ n, outS k = n := ⟨_, rfl⟩
  rw [hn] at ko h35 ⊢
  clear hG h hn
  go_enter Tryz.func61, Tryz.ntmps61
  go_upto_region 3 with (first
    | (go_at_call 35; refine kf.mono ?_; rintro e w2 ⟨rfl, v2, col2, h2, hT2⟩)
    | (go_at_call 108; refine (ko _).mono ?_; rintro e w3 ⟨rfl, rfl⟩))
  obtain ⟨hG2, _, _⟩ := h2.at_ (i := (i : Int)) (g := g) hg
  obtain ⟨R2, pa2, pc2, wv2, vv2, hG2⟩ := hG2
  have ke := enter_dec hG2 n h35.1 h35.2
  clear hG2
  go_wp2_with (go_at_call 36; refine ke.mono ?_; rintro e w4 ⟨v4, Q4, rfl, hM, hG4, hT4⟩)
  go_ret
  obtain ⟨col5, h5, hT5⟩ := h2.gang (i := (i : Int)) (g := g) (g' := g.at (.dec n)) hg rfl hG4 hT4
  exact ⟨v4, v2, col5, rfl, hM.low hT2.kept.size, h5, hT2.trans hT5⟩
end

end Go.Proofs.YtlehlbgaboifoabGreatDoor
