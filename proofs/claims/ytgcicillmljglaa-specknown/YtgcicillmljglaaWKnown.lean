/- The walk of SpecKnown. -/
import Derived.Test.YtgcicillmljglaaLP
namespace Go.Proofs.Ytgcicillmljglaa
open Go.RowKit Go.Maps
set_option linter.unusedSimpArgs false
set_option linter.unusedVariables false

def ptA : PodT := ⟨⟨#[97]⟩, 1, 0, 0, none, 0, [], none, 0, [], false⟩
def ptC3 : PodT := ⟨⟨#[99]⟩, 3, 0, 0, none, 0, [], none, 0, [], false⟩
def ptA9 : PodT := ⟨⟨#[65]⟩, 9, 0, 0, none, 0, [], none, 0, [], false⟩
def ptCm : PodT := ⟨⟨#[99]⟩, 1, 0, -1, none, 0, [], none, 0, [], false⟩
def ptZ : PodT := ⟨⟨#[]⟩, 0, 0, 0, none, 0, [], none, 0, [], false⟩
def xy : List ByteArray := [⟨#[120]⟩, ⟨#[121]⟩]
def yx : List ByteArray := [⟨#[121]⟩, ⟨#[120]⟩]
def ptB (X : Nat) : PodT := ⟨⟨#[206, 178]⟩, 2, 1099511627776, 0, some ⟨X, 0, none⟩, 2, xy, none, 0, [], false⟩
def ptCy (Y : Nat) : PodT := ⟨⟨#[99]⟩, 1, 0, 0, none, 0, [], some ⟨Y, 0, none⟩, 2, yx, false⟩

/-- A row of pods, and what a gang of them is. -/
def GoodPods (w : World) (B n : Nat) (id e : Int) : Prop := ∃ l : List PodT, l.length = n ∧ Pods w (some ⟨B, 0, none⟩) l ∧ gangE id l 2 = e
theorem GoodPods.later {w w' : World} {B n : Nat} {id e : Int} (h : GoodPods w B n id e) (hb : Below w.heap.size w w') : GoodPods w' B n id e := by
  obtain ⟨l, h1, h2, h3⟩ := h
  exact ⟨l, h1, h2.later hb, h3⟩
theorem bare_ok {w : World} {p : PodT} (h1 : p.pa = none) (h2 : p.ps = []) (h3 : p.ba = none) (h4 : p.bs = []) : p.Ok w := by
  unfold PodT.Ok
  rw [h1, h2, h3, h4]
  exact ⟨strs_nil w, strs_nil w⟩
theorem pods_alloc (w : World) (l : List PodT) (cs : Array Value) (h : cs = (flat l).toArray) (hok : ∀ p ∈ l, p.Ok w) (hl : l.length ≤ 1000) : Pods (w.alloc (.cells cs 26)) (some ⟨w.heap.size, 0, none⟩) l := by
  subst h
  refine ⟨hl, fun i p hp => ⟨_, _, rfl, ?_, (hok p (List.mem_of_getElem? hp)).later (up (Below.refl _ _) _)⟩⟩
  have hc := fun j (hj : j < 7) u (hu : p.cells[j]? = some u) => cell_lit w (flat l).toArray 26 _ (i * 7 + j) u rfl (by simpa [flat_get l i j p hp hj] using hu)
  rw [Nat.zero_add]
  exact ⟨hc 0 (by omega) _ rfl, hc 1 (by omega) _ rfl, hc 2 (by omega) _ rfl, hc 3 (by omega) _ rfl, hc 4 (by omega) _ rfl, hc 5 (by omega) _ rfl, hc 6 (by omega) _ rfl⟩
theorem pods_new1 (w : World) (p : PodT) (cs : Array Value) (hp : p.Ok w) (h : cs = (flat [p]).toArray) : Pods (w.alloc (.cells cs 26)) (some ⟨w.heap.size, 0, none⟩) [p] :=
  pods_alloc w [p] cs h (by simpa using hp) (by simp)
theorem pods_new2 (w : World) (p q : PodT) (cs : Array Value) (hp : p.Ok w) (hq : q.Ok w) (h : cs = (flat [p, q]).toArray) : Pods (w.alloc (.cells cs 26)) (some ⟨w.heap.size, 0, none⟩) [p, q] :=
  pods_alloc w [p, q] cs h (by simp; exact ⟨hp, hq⟩) (by simp)
theorem strs_xy (w : World) : Strs (w.alloc (.cells #[.string ⟨#[120]⟩, .string ⟨#[121]⟩] 9)) (some ⟨w.heap.size, 0, none⟩) xy := by
  refine ⟨by decide, fun i hi => ⟨_, rfl, ?_⟩⟩
  rcases (by simp [xy] at hi; omega : i = 0 ∨ i = 1) with rfl | rfl <;> simp [Addr.add, xy]
theorem strs_yx (w : World) : Strs (w.alloc (.cells #[.string ⟨#[121]⟩, .string ⟨#[120]⟩] 9)) (some ⟨w.heap.size, 0, none⟩) yx := by
  refine ⟨by decide, fun i hi => ⟨_, rfl, ?_⟩⟩
  rcases (by simp [yx] at hi; omega : i = 0 ∨ i = 1) with rfl | rfl <;> simp [Addr.add, yx]

/-- What each gang must be answered. -/
def wants : List Int := [0, 2, 3, 4, 2, 1, 2, 1, 2, 0, 3]
/-- The row of the eleven gangs. -/
def GoodGangs (w : World) (G : Nat) : Prop := ∀ k, k < 11 → ∃ (id : Int) (a : Option Addr) (n : Nat) (l : List PodT), w.cell? ⟨G, k * 2, none⟩ = some (.int .i64 id) ∧ w.cell? ⟨G, k * 2 + 1, none⟩ = some (.slice a n n) ∧ l.length = n ∧ Pods w a l ∧ gangE id l 2 = wants.getD k 0
theorem GoodGangs.later {w w' : World} {G : Nat} (h : GoodGangs w G) (hb : Below w.heap.size w w') : GoodGangs w' G := fun k hk => by
  obtain ⟨id, a, n, l, h1, h2, h3, h4, h5⟩ := h k hk
  exact ⟨id, a, n, l, cell_below hb h1 (block_lt h1), cell_below hb h2 (block_lt h2), h3, h4.later hb, h5⟩

def knownF (X : Nat) : Nat → Value → World → Prop
  | 0, v, _ => v = .agg #[.string ⟨#[97]⟩, .int .i64 1, .int .i64 0, .int .i64 0, .slice none 0 0, .slice none 0 0, .bool false]
  | 1, v, _ => v = .agg #[.string ⟨#[206, 178]⟩, .int .i64 2, .int .i64 1099511627776, .int .i64 0, .slice (some ⟨X, 0, none⟩) 2 2, .slice none 0 0, .bool false]
  | 2, v, w => ∃ B, v = .slice (some ⟨B, 0, none⟩) 2 2 ∧ GoodPods w B 2 1 0
  | 3, v, w => ∃ B, v = .agg #[.int .i64 1, .slice (some ⟨B, 0, none⟩) 2 2] ∧ GoodPods w B 2 1 0
  | 4, v, _ => v = .agg #[.string ⟨#[97]⟩, .int .i64 1, .int .i64 0, .int .i64 0, .slice none 0 0, .slice none 0 0, .bool false]
  | 5, v, w => ∃ B, v = .slice (some ⟨B, 0, none⟩) 1 1 ∧ GoodPods w B 1 0 2
  | 6, v, w => ∃ B, v = .agg #[.int .i64 0, .slice (some ⟨B, 0, none⟩) 1 1] ∧ GoodPods w B 1 0 2
  | 7, v, _ => v = .agg #[.int .i64 1, .slice none 0 0]
  | 8, v, _ => v = .agg #[.string ⟨#[97]⟩, .int .i64 1, .int .i64 0, .int .i64 0, .slice none 0 0, .slice none 0 0, .bool false]
  | 9, v, _ => v = .agg #[.string ⟨#[97]⟩, .int .i64 1, .int .i64 0, .int .i64 0, .slice none 0 0, .slice none 0 0, .bool false]
  | 10, v, w => ∃ B, v = .slice (some ⟨B, 0, none⟩) 2 2 ∧ GoodPods w B 2 1 4
  | 11, v, w => ∃ B, v = .agg #[.int .i64 1, .slice (some ⟨B, 0, none⟩) 2 2] ∧ GoodPods w B 2 1 4
  | 12, v, _ => v = .agg #[.string ⟨#[97]⟩, .int .i64 1, .int .i64 0, .int .i64 0, .slice none 0 0, .slice none 0 0, .bool false]
  | 13, v, _ => v = .agg #[.string ⟨#[99]⟩, .int .i64 3, .int .i64 0, .int .i64 0, .slice none 0 0, .slice none 0 0, .bool false]
  | 14, v, w => ∃ B, v = .slice (some ⟨B, 0, none⟩) 2 2 ∧ GoodPods w B 2 1 2
  | 15, v, w => ∃ B, v = .agg #[.int .i64 1, .slice (some ⟨B, 0, none⟩) 2 2] ∧ GoodPods w B 2 1 2
  | 16, v, _ => v = .agg #[.string ⟨#[65]⟩, .int .i64 9, .int .i64 0, .int .i64 0, .slice none 0 0, .slice none 0 0, .bool false]
  | 17, v, _ => v = .agg #[.string ⟨#[97]⟩, .int .i64 1, .int .i64 0, .int .i64 0, .slice none 0 0, .slice none 0 0, .bool false]
  | 18, v, w => ∃ B, v = .slice (some ⟨B, 0, none⟩) 2 2 ∧ GoodPods w B 2 1 1
  | 19, v, w => ∃ B, v = .agg #[.int .i64 1, .slice (some ⟨B, 0, none⟩) 2 2] ∧ GoodPods w B 2 1 1
  | 20, v, _ => v = .agg #[.string ⟨#[97]⟩, .int .i64 1, .int .i64 0, .int .i64 0, .slice none 0 0, .slice none 0 0, .bool false]
  | 21, v, _ => v = .agg #[.int .i64 0, .int .i64 (-1)]
  | 22, v, _ => v = .agg #[.string ⟨#[99]⟩, .int .i64 1, .int .i64 0, .int .i64 (-1), .slice none 0 0, .slice none 0 0, .bool false]
  | 23, v, w => ∃ B, v = .slice (some ⟨B, 0, none⟩) 2 2 ∧ GoodPods w B 2 1 2
  | 24, v, w => ∃ B, v = .agg #[.int .i64 1, .slice (some ⟨B, 0, none⟩) 2 2] ∧ GoodPods w B 2 1 2
  | 25, v, _ => v = .agg #[.string ⟨#[97]⟩, .int .i64 1, .int .i64 0, .int .i64 0, .slice none 0 0, .slice none 0 0, .bool false]
  | 26, v, w => ∃ Y, v = .slice (some ⟨Y, 0, none⟩) 2 2 ∧ Strs w (some ⟨Y, 0, none⟩) yx
  | 27, v, w => ∃ Y, v = .agg #[.string ⟨#[99]⟩, .int .i64 1, .int .i64 0, .int .i64 0, .slice none 0 0, .slice (some ⟨Y, 0, none⟩) 2 2, .bool false] ∧ Strs w (some ⟨Y, 0, none⟩) yx
  | 28, v, w => ∃ B, v = .slice (some ⟨B, 0, none⟩) 2 2 ∧ GoodPods w B 2 1 1
  | 29, v, w => ∃ B, v = .agg #[.int .i64 1, .slice (some ⟨B, 0, none⟩) 2 2] ∧ GoodPods w B 2 1 1
  | 30, v, _ => v = .agg #[.string ⟨#[97]⟩, .int .i64 1, .int .i64 0, .int .i64 0, .slice none 0 0, .slice none 0 0, .bool false]
  | 31, v, w => ∃ B, v = .slice (some ⟨B, 0, none⟩) 1 1 ∧ GoodPods w B 1 1000000 2
  | 32, v, w => ∃ B, v = .agg #[.int .i64 1000000, .slice (some ⟨B, 0, none⟩) 1 1] ∧ GoodPods w B 1 1000000 2
  | 33, v, _ => v = .agg #[.string ⟨#[206, 178]⟩, .int .i64 2, .int .i64 1099511627776, .int .i64 0, .slice (some ⟨X, 0, none⟩) 2 2, .slice none 0 0, .bool false]
  | 34, v, w => ∃ B, v = .slice (some ⟨B, 0, none⟩) 1 1 ∧ GoodPods w B 1 999999 0
  | 35, v, w => ∃ B, v = .agg #[.int .i64 999999, .slice (some ⟨B, 0, none⟩) 1 1] ∧ GoodPods w B 1 999999 0
  | 36, v, w => ∃ B, v = .slice (some ⟨B, 0, none⟩) 9 9 ∧ GoodPods w B 9 1 3
  | 37, v, w => ∃ B, v = .agg #[.int .i64 1, .slice (some ⟨B, 0, none⟩) 9 9] ∧ GoodPods w B 9 1 3
  | 38, v, w => ∃ G, v = .slice (some ⟨G, 0, none⟩) 11 11 ∧ GoodGangs w G
  | 39, v, w => ∃ G, v = .slice (some ⟨G, 0, none⟩) 11 11 ∧ GoodGangs w G
  | _, _, _ => True

def knownG (G D K : Nat) (id e : Int) (a : Option Addr) (n : Nat) : Nat → Value → World → Prop
  | 0, v, _ => v = .slice (some ⟨G, 0, none⟩) 11 11
  | 1, v, _ => v = .int .i64 K
  | 2, v, _ => v = .pointer (some ⟨G, K * 2, none⟩)
  | 3, v, _ => v = .agg #[.int .i64 id, .slice a n n]
  | 4, v, _ => v = .int .i64 e
  | 5, v, _ => v = .slice (some ⟨D, 0, none⟩) 11 11
  | 6, v, _ => v = .int .i64 K
  | 7, v, _ => v = .pointer (some ⟨D, K, none⟩)
  | 8, v, _ => v = .int .i64 e
  | 9, v, _ => v = .bool true
  | 10, v, _ => v = .bool true
  | _, _, _ => True

theorem cfGang (args : Array Value) (w : World) : (callFunc 23 args).run Try.prog w = .ok (.enter 23 args) w := by kernel_rfl
set_option maxRecDepth 100000 in
set_option maxHeartbeats 4000000 in
theorem last_known {Q : Exit → Act → World → Prop} {pp0 : String} (G D K : Nat) (id e : Int) (a : Option Addr) (n : Nat) (l : List PodT) (A : Act) (W : World) (hsz0 : A.tmps.size = 68) (h5 : sl A 5 = .slice (some ⟨G, 0, none⟩) 11 11) (h6 : sl A 6 = .slice (some ⟨D, 0, none⟩) 11 11) (h7 : sl A 7 = .int .i64 K) (hK : K < 11)
    (h1 : W.cell? ⟨G, K * 2, none⟩ = some (.int .i64 id)) (h2 : W.cell? ⟨G, K * 2 + 1, none⟩ = some (.slice a n n)) (h3 : l.length = n) (h4 : Pods W a l) (he : gangE id l 2 = e) (hD : W.cell? ⟨D, K, none⟩ = some (.int .i64 e))
    (hQ : ∀ b w', Below W.heap.size W w' → b.defers = A.defers → b.tmps.size = 68 → sl b 2 = .bool true → Q .normal b w') :
    Code.wp Try.prog (Code.region 8 #[{ dst := some 58, op := Op.move (Operand.tmp 5), type := 54, pos := pp0, after := #[], guard := none }, { dst := some 59, op := Op.move (Operand.tmp 7), type := 3, pos := pp0, after := #[], guard := none }, { dst := some 60, op := Op.indexAddr 54 (Operand.tmp 58) (Operand.tmp 59), type := 0, pos := pp0, after := #[{ on := 0, ground := Ground.data }, { on := 1, ground := Ground.data }], guard := none }, { dst := some 61, op := Op.load 47 (Operand.tmp 60), type := 47, pos := pp0, after := #[{ on := 2, ground := Ground.data }], guard := none }, { dst := some 62, op := Op.call { callee := Callee.value (Operand.func 23), args := #[Operand.tmp 61, Operand.const (Value.int IntKind.i64 2)], argTypes := #[47, 3] }, type := 32, pos := pp0, after := #[{ on := 3, ground := Ground.data }], guard := none }, { dst := some 63, op := Op.move (Operand.tmp 6), type := 60, pos := pp0, after := #[], guard := none }, { dst := some 64, op := Op.move (Operand.tmp 7), type := 3, pos := pp0, after := #[], guard := none }, { dst := some 65, op := Op.indexAddr 60 (Operand.tmp 63) (Operand.tmp 64), type := 0, pos := pp0, after := #[{ on := 5, ground := Ground.data }, { on := 6, ground := Ground.data }], guard := none }, { dst := some 66, op := Op.load 32 (Operand.tmp 65), type := 32, pos := pp0, after := #[{ on := 7, ground := Ground.data }], guard := none }, { dst := some 67, op := Op.binOp BinOp.eql 32 (Operand.tmp 62) (Operand.tmp 66) 32, type := 4, pos := pp0, after := #[{ on := 4, ground := Ground.data }, { on := 8, ground := Ground.data }], guard := none }, { dst := some 2, op := Op.assign (Operand.tmp 67), type := 4, pos := pp0, after := #[{ on := 9, ground := Ground.data }, { on := 4, ground := Ground.chain }, { on := 0, ground := Ground.phase }, { on := 1, ground := Ground.phase }, { on := 2, ground := Ground.phase }, { on := 3, ground := Ground.phase }, { on := 4, ground := Ground.phase }, { on := 5, ground := Ground.phase }, { on := 6, ground := Ground.phase }, { on := 7, ground := Ground.phase }, { on := 8, ground := Ground.phase }, { on := 9, ground := Ground.phase }], guard := none }] true) Q A W := by
  have kG := fun W' (h : Below W.heap.size W W') => gang_any id 2 a n n l W' h3 (Nat.le_refl _) (h4.later h)
  rw [he] at kG
  refine wp_region_rely (fun w1 => Below W.heap.size W w1) (fun w1 w2 => Below w1.heap.size w1 w2) (knownG G D K id e a n) (by kernel_rfl) (by rw [hsz0]; kernel_rfl) (Below.refl _ _).drew ?keep ?step ?rest
  case keep =>
    intro i v w1 w2 hS hF
    unfold knownG at *
    split at hF <;> try exact hF
  case step =>
    intro i o d ho hd b w1 hR hold hdep
    have o5 : sl b 5 = .slice (some ⟨G, 0, none⟩) 11 11 := (hold 5 (by kernel_rfl)).trans h5
    have o6 : sl b 6 = .slice (some ⟨D, 0, none⟩) 11 11 := (hold 6 (by kernel_rfl)).trans h6
    have o7 : sl b 7 = .int .i64 K := (hold 7 (by kernel_rfl)).trans h7
    have hb0 := Below.refl w1.heap.size w1
    have y0 := cell_below hR h1 (block_lt h1)
    have y1 := cell_below hR h2 (block_lt h2)
    have y2 := cell_below hR hD (block_lt hD)
    have hK' : (K : Int) < 11 := by omega
    rcases i with _ | _ | _ | _ | _ | _ | _ | _ | _ | _ | _ | i
    all_goals try (cases ho; cases hd)
    · exact ok_val' rfl rfl (want_none rfl b) (by simp [go_sem, o5]) hR hb0 rfl
    · exact ok_val' rfl rfl (want_none rfl b) (by simp [go_sem, o7]) hR hb0 rfl
    · have f58 : sl b 58 = .slice (some ⟨G, 0, none⟩) 11 11 := hdep 0 _ _ rfl rfl (by kernel_rfl)
      have f59 : sl b 59 = .int .i64 K := hdep 1 _ _ rfl rfl (by kernel_rfl)
      exact ok_val' rfl rfl (want_none rfl b) (by simp [go_sem, f58, f59, hK']) hR hb0 rfl
    · have f60 : sl b 60 = .pointer (some ⟨G, K * 2, none⟩) := hdep 2 _ _ rfl rfl (by kernel_rfl)
      exact ok_val' rfl rfl (want_none rfl b) (by simp [go_sem, f60, y0, y1]) hR hb0 rfl
    · have f61 : sl b 61 = .agg #[.int .i64 id, .slice a n n] := hdep 3 _ _ rfl rfl (by kernel_rfl)
      refine ok_enter' rfl rfl (want_none rfl b) ?_ ((kG w1 hR).mono ?_)
      · simp [go_sem, f61, cfGang]
      rintro e w2 ⟨rfl, hb2⟩
      exact ⟨_, rfl, hR.trans (hb2.mono hR.size), hb2, rfl⟩
    · exact ok_val' rfl rfl (want_none rfl b) (by simp [go_sem, o6]) hR hb0 rfl
    · exact ok_val' rfl rfl (want_none rfl b) (by simp [go_sem, o7]) hR hb0 rfl
    · have f63 : sl b 63 = .slice (some ⟨D, 0, none⟩) 11 11 := hdep 5 _ _ rfl rfl (by kernel_rfl)
      have f64 : sl b 64 = .int .i64 K := hdep 6 _ _ rfl rfl (by kernel_rfl)
      exact ok_val' rfl rfl (want_none rfl b) (by simp [go_sem, f63, f64, hK']) hR hb0 rfl
    · have f65 : sl b 65 = .pointer (some ⟨D, K, none⟩) := hdep 7 _ _ rfl rfl (by kernel_rfl)
      exact ok_val' rfl rfl (want_none rfl b) (by simp [go_sem, f65, y2]) hR hb0 rfl
    · have f62 : sl b 62 = .int .i64 e := hdep 4 _ _ rfl rfl (by kernel_rfl)
      have f66 : sl b 66 = .int .i64 e := hdep 8 _ _ rfl rfl (by kernel_rfl)
      exact ok_val' rfl rfl (want_none rfl b) (by simp [go_sem, f62, f66]) hR hb0 rfl
    · have f67 : sl b 67 = .bool true := hdep 9 _ _ rfl rfl (by kernel_rfl)
      exact ok_val' rfl rfl (want_none rfl b) (by simp [go_sem, f67]) hR hb0 rfl
    · cases ho
  case rest =>
    intro b w1 hR hsz hdf hold hF
    have f5 : sl b 5 = .slice (some ⟨G, 0, none⟩) 11 11 := (hold 5 (by kernel_rfl)).trans h5
    have f6 : sl b 6 = .slice (some ⟨D, 0, none⟩) 11 11 := (hold 6 (by kernel_rfl)).trans h6
    have f7 : sl b 7 = .int .i64 K := (hold 7 (by kernel_rfl)).trans h7
    have f2 : sl b 2 = .bool true := hF 10 _ _ rfl rfl
    exact hQ b w1 hR hdf (hsz.trans hsz0) f2

set_option maxRecDepth 100000 in
set_option maxHeartbeats 8000000 in
theorem specKnown_walk (wh : Int) (w : World) :
    Calls Try.prog 7 #[.int .i64 wh] w fun e w' => e = .returned (.bool true) ∧ Below w.heap.size w w' := by
  go_enter Try.func7, Try.ntmps7
  go_wp2_with (first
      | (go_at_call 9; refine (known_on _ _ (Below.refl _ _)).mono ?_; rintro e w1 ⟨rfl, hb1⟩))
  obtain ⟨X, hX0⟩ : ∃ X, w1.heap.size + 1 = X := ⟨_, rfl⟩
  obtain ⟨C, hC0⟩ : ∃ C, w1.heap.size + 1 + 1 = C := ⟨_, rfl⟩
  obtain ⟨A, hA0⟩ : ∃ A, w1.heap.size = A := ⟨_, rfl⟩
  obtain ⟨oA, hoA⟩ : ∃ o, o = Obj.cells #[.string ⟨#[97]⟩, .int .i64 1, .int .i64 0, .int .i64 0, .slice none 0 0, .slice none 0 0, .bool false] 26 := ⟨_, rfl⟩
  obtain ⟨oX, hoX⟩ : ∃ o, o = Obj.cells #[.string ⟨#[120]⟩, .string ⟨#[121]⟩] 9 := ⟨_, rfl⟩
  rw [hC0, hX0, hA0, ← hoA, ← hoX]
  obtain ⟨oB, hoB⟩ : ∃ o, o = Obj.cells #[.string ⟨#[206, 178]⟩, .int .i64 2, .int .i64 1099511627776, .int .i64 0, .slice (some ⟨X, 0, none⟩) 2 2, .slice none 0 0, .bool false] 26 := ⟨_, rfl⟩
  rw [← hoB]
  obtain ⟨W, hW⟩ : ∃ W, W = ((w1.alloc oA).alloc oX).alloc oB := ⟨_, rfl⟩
  rw [← hW]
  have uA := up (Below.refl w1.heap.size w1) oA
  have uX := up (Below.refl (w1.alloc oA).heap.size (w1.alloc oA)) oX
  have uB := up (Below.refl ((w1.alloc oA).alloc oX).heap.size ((w1.alloc oA).alloc oX)) oB
  have hA : PBox W A ⟨#[97]⟩ 1 0 0 (.slice none 0 0) (.slice none 0 0) false := by
    rw [hW]
    refine PBox.later (PBox.later ?_ uX) uB
    rw [hoA, ← hA0]
    exact heap_alloc_new w1 _
  have hX : Strs W (some ⟨X, 0, none⟩) xy := by
    rw [hW]
    refine Strs.later ?_ uB
    rw [hoX]
    have := strs_xy (w1.alloc oA)
    simpa [hA0, ← hX0] using this
  have hB : PBox W C ⟨#[206, 178]⟩ 2 1099511627776 0 (.slice (some ⟨X, 0, none⟩) 2 2) (.slice none 0 0) false := by
    rw [hW, hoB]
    have := heap_alloc_new ((w1.alloc oA).alloc oX) (Obj.cells #[.string ⟨#[206, 178]⟩, .int .i64 2, .int .i64 1099511627776, .int .i64 0, .slice (some ⟨X, 0, none⟩) 2 2, .slice none 0 0, .bool false] 26)
    simpa [PBox, ← hC0, hA0] using this
  have b1 : Below w.heap.size w W := by
    rw [hW]
    exact up (up (up hb1 _) _) _
  clear hoA hoX hoB hW uA uX uB hX0 hC0 hA0 hb1
  refine wp_region_rely (fun w1 => Below W.heap.size W w1) (fun w1 w2 => Below w1.heap.size w1 w2) (knownF X) (by kernel_rfl) (by kernel_rfl) (Below.refl _ _).drew ?keep ?step ?rest
  case keep =>
    intro i v w1 w2 hS hF
    unfold knownF at *
    split at hF <;> try exact hF
    all_goals
      obtain ⟨B, hv, hc⟩ := hF
      exact ⟨B, hv, hc.later hS⟩
  case step =>
    intro i o d ho hd b w1 hR hold hdep
    have o0 : sl b 0 = .int .i64 wh := hold 0 (by kernel_rfl)
    have o2 : sl b 2 = .bool false := hold 2 (by kernel_rfl)
    have o3 : sl b 3 = .pointer (some ⟨A, 0, none⟩) := hold 3 (by kernel_rfl)
    have o4 : sl b 4 = .pointer (some ⟨C, 0, none⟩) := hold 4 (by kernel_rfl)
    have hb0 := Below.refl w1.heap.size w1
    obtain ⟨m0, m1, m2, m3, m4, m5, m6⟩ := (hA.later hR).cells
    obtain ⟨k0, k1, k2, k3, k4, k5, k6⟩ := (hB.later hR).cells
    have hxy := hX.later hR
    rcases i with _ | _ | _ | _ | _ | _ | _ | _ | _ | _ | _ | _ | _ | _ | _ | _ | _ | _ | _ | _ | _ | _ | _ | _ | _ | _ | _ | _ | _ | _ | _ | _ | _ | _ | _ | _ | _ | _ | _ | _ | i
    all_goals try (cases ho; cases hd)
    · exact ok_val' rfl rfl (want_none rfl b) (by simp [go_sem, o3, m0, m1, m2, m3, m4, m5, m6]) hR hb0 rfl
    · exact ok_val' rfl rfl (want_none rfl b) (by simp [go_sem, o4, k0, k1, k2, k3, k4, k5, k6]) hR hb0 rfl
    · have f14 : sl b 14 = .agg #[.string ⟨#[97]⟩, .int .i64 1, .int .i64 0, .int .i64 0, .slice none 0 0, .slice none 0 0, .bool false] := hdep 0 _ _ rfl rfl (by kernel_rfl)
      have f15 : sl b 15 = .agg #[.string ⟨#[206, 178]⟩, .int .i64 2, .int .i64 1099511627776, .int .i64 0, .slice (some ⟨X, 0, none⟩) 2 2, .slice none 0 0, .bool false] := hdep 1 _ _ rfl rfl (by kernel_rfl)
      exact ok_val' rfl rfl (want_none rfl b) (by simp [go_sem, f14, f15] <;> first | rfl | exact ⟨rfl, rfl⟩) (hR.alloc hR.size _) (hb0.alloc (Nat.le_refl _) _) ⟨_, rfl, [ptA, (ptB X)], rfl, pods_new2 _ _ _ _ (bare_ok rfl rfl rfl rfl) ⟨hxy, strs_nil _⟩ rfl, by kernel_rfl⟩
    · obtain ⟨B2, f16, g16⟩ : ∃ B, sl b 16 = .slice (some ⟨B, 0, none⟩) 2 2 ∧ GoodPods w1 B 2 1 0 := hdep 2 _ _ rfl rfl (by kernel_rfl)
      exact ok_val' rfl rfl (want_none rfl b) (by simp [go_sem, f16] <;> rfl) hR hb0 ⟨_, rfl, g16⟩
    · exact ok_val' rfl rfl (want_none rfl b) (by simp [go_sem, o3, m0, m1, m2, m3, m4, m5, m6]) hR hb0 rfl
    · have f18 : sl b 18 = .agg #[.string ⟨#[97]⟩, .int .i64 1, .int .i64 0, .int .i64 0, .slice none 0 0, .slice none 0 0, .bool false] := hdep 4 _ _ rfl rfl (by kernel_rfl)
      exact ok_val' rfl rfl (want_none rfl b) (by simp [go_sem, f18] <;> first | rfl | exact ⟨rfl, rfl⟩) (hR.alloc hR.size _) (hb0.alloc (Nat.le_refl _) _) ⟨_, rfl, [ptA], rfl, pods_new1 _ _ _ (bare_ok rfl rfl rfl rfl) rfl, by kernel_rfl⟩
    · obtain ⟨B5, f19, g19⟩ : ∃ B, sl b 19 = .slice (some ⟨B, 0, none⟩) 1 1 ∧ GoodPods w1 B 1 0 2 := hdep 5 _ _ rfl rfl (by kernel_rfl)
      exact ok_val' rfl rfl (want_none rfl b) (by simp [go_sem, f19] <;> rfl) hR hb0 ⟨_, rfl, g19⟩
    · exact ok_val' rfl rfl (want_none rfl b) (by simp [go_sem]) hR hb0 rfl
    · exact ok_val' rfl rfl (want_none rfl b) (by simp [go_sem, o3, m0, m1, m2, m3, m4, m5, m6]) hR hb0 rfl
    · exact ok_val' rfl rfl (want_none rfl b) (by simp [go_sem, o3, m0, m1, m2, m3, m4, m5, m6]) hR hb0 rfl
    · have f22 : sl b 22 = .agg #[.string ⟨#[97]⟩, .int .i64 1, .int .i64 0, .int .i64 0, .slice none 0 0, .slice none 0 0, .bool false] := hdep 8 _ _ rfl rfl (by kernel_rfl)
      have f23 : sl b 23 = .agg #[.string ⟨#[97]⟩, .int .i64 1, .int .i64 0, .int .i64 0, .slice none 0 0, .slice none 0 0, .bool false] := hdep 9 _ _ rfl rfl (by kernel_rfl)
      exact ok_val' rfl rfl (want_none rfl b) (by simp [go_sem, f22, f23] <;> first | rfl | exact ⟨rfl, rfl⟩) (hR.alloc hR.size _) (hb0.alloc (Nat.le_refl _) _) ⟨_, rfl, [ptA, ptA], rfl, pods_new2 _ _ _ _ (bare_ok rfl rfl rfl rfl) (bare_ok rfl rfl rfl rfl) rfl, by kernel_rfl⟩
    · obtain ⟨B10, f24, g24⟩ : ∃ B, sl b 24 = .slice (some ⟨B, 0, none⟩) 2 2 ∧ GoodPods w1 B 2 1 4 := hdep 10 _ _ rfl rfl (by kernel_rfl)
      exact ok_val' rfl rfl (want_none rfl b) (by simp [go_sem, f24] <;> rfl) hR hb0 ⟨_, rfl, g24⟩
    · exact ok_val' rfl rfl (want_none rfl b) (by simp [go_sem, o3, m0, m1, m2, m3, m4, m5, m6]) hR hb0 rfl
    · exact ok_val' rfl rfl (want_none rfl b) (by simp [go_sem]) hR hb0 rfl
    · have f26 : sl b 26 = .agg #[.string ⟨#[97]⟩, .int .i64 1, .int .i64 0, .int .i64 0, .slice none 0 0, .slice none 0 0, .bool false] := hdep 12 _ _ rfl rfl (by kernel_rfl)
      have f27 : sl b 27 = .agg #[.string ⟨#[99]⟩, .int .i64 3, .int .i64 0, .int .i64 0, .slice none 0 0, .slice none 0 0, .bool false] := hdep 13 _ _ rfl rfl (by kernel_rfl)
      exact ok_val' rfl rfl (want_none rfl b) (by simp [go_sem, f26, f27] <;> first | rfl | exact ⟨rfl, rfl⟩) (hR.alloc hR.size _) (hb0.alloc (Nat.le_refl _) _) ⟨_, rfl, [ptA, ptC3], rfl, pods_new2 _ _ _ _ (bare_ok rfl rfl rfl rfl) (bare_ok rfl rfl rfl rfl) rfl, by kernel_rfl⟩
    · obtain ⟨B14, f28, g28⟩ : ∃ B, sl b 28 = .slice (some ⟨B, 0, none⟩) 2 2 ∧ GoodPods w1 B 2 1 2 := hdep 14 _ _ rfl rfl (by kernel_rfl)
      exact ok_val' rfl rfl (want_none rfl b) (by simp [go_sem, f28] <;> rfl) hR hb0 ⟨_, rfl, g28⟩
    · exact ok_val' rfl rfl (want_none rfl b) (by simp [go_sem]) hR hb0 rfl
    · exact ok_val' rfl rfl (want_none rfl b) (by simp [go_sem, o3, m0, m1, m2, m3, m4, m5, m6]) hR hb0 rfl
    · have f30 : sl b 30 = .agg #[.string ⟨#[65]⟩, .int .i64 9, .int .i64 0, .int .i64 0, .slice none 0 0, .slice none 0 0, .bool false] := hdep 16 _ _ rfl rfl (by kernel_rfl)
      have f31 : sl b 31 = .agg #[.string ⟨#[97]⟩, .int .i64 1, .int .i64 0, .int .i64 0, .slice none 0 0, .slice none 0 0, .bool false] := hdep 17 _ _ rfl rfl (by kernel_rfl)
      exact ok_val' rfl rfl (want_none rfl b) (by simp [go_sem, f30, f31] <;> first | rfl | exact ⟨rfl, rfl⟩) (hR.alloc hR.size _) (hb0.alloc (Nat.le_refl _) _) ⟨_, rfl, [ptA9, ptA], rfl, pods_new2 _ _ _ _ (bare_ok rfl rfl rfl rfl) (bare_ok rfl rfl rfl rfl) rfl, by kernel_rfl⟩
    · obtain ⟨B18, f32, g32⟩ : ∃ B, sl b 32 = .slice (some ⟨B, 0, none⟩) 2 2 ∧ GoodPods w1 B 2 1 1 := hdep 18 _ _ rfl rfl (by kernel_rfl)
      exact ok_val' rfl rfl (want_none rfl b) (by simp [go_sem, f32] <;> rfl) hR hb0 ⟨_, rfl, g32⟩
    · exact ok_val' rfl rfl (want_none rfl b) (by simp [go_sem, o3, m0, m1, m2, m3, m4, m5, m6]) hR hb0 rfl
    · exact ok_val' rfl rfl (want_none rfl b) (by simp [go_sem]) hR hb0 rfl
    · have f35 : sl b 35 = .agg #[.int .i64 0, .int .i64 (-1)] := hdep 21 _ _ rfl rfl (by kernel_rfl)
      exact ok_val' rfl rfl (want_none rfl b) (by simp [go_sem, f35]) hR hb0 rfl
    · have f34 : sl b 34 = .agg #[.string ⟨#[97]⟩, .int .i64 1, .int .i64 0, .int .i64 0, .slice none 0 0, .slice none 0 0, .bool false] := hdep 20 _ _ rfl rfl (by kernel_rfl)
      have f36 : sl b 36 = .agg #[.string ⟨#[99]⟩, .int .i64 1, .int .i64 0, .int .i64 (-1), .slice none 0 0, .slice none 0 0, .bool false] := hdep 22 _ _ rfl rfl (by kernel_rfl)
      exact ok_val' rfl rfl (want_none rfl b) (by simp [go_sem, f34, f36] <;> first | rfl | exact ⟨rfl, rfl⟩) (hR.alloc hR.size _) (hb0.alloc (Nat.le_refl _) _) ⟨_, rfl, [ptA, ptCm], rfl, pods_new2 _ _ _ _ (bare_ok rfl rfl rfl rfl) (bare_ok rfl rfl rfl rfl) rfl, by kernel_rfl⟩
    · obtain ⟨B23, f37, g37⟩ : ∃ B, sl b 37 = .slice (some ⟨B, 0, none⟩) 2 2 ∧ GoodPods w1 B 2 1 2 := hdep 23 _ _ rfl rfl (by kernel_rfl)
      exact ok_val' rfl rfl (want_none rfl b) (by simp [go_sem, f37] <;> rfl) hR hb0 ⟨_, rfl, g37⟩
    · exact ok_val' rfl rfl (want_none rfl b) (by simp [go_sem, o3, m0, m1, m2, m3, m4, m5, m6]) hR hb0 rfl
    · exact ok_val' rfl rfl (want_none rfl b) (by simp [go_sem] <;> first | rfl | exact ⟨rfl, rfl⟩) (hR.alloc hR.size _) (hb0.alloc (Nat.le_refl _) _) ⟨_, rfl, strs_yx _⟩
    · obtain ⟨Y26, f40, g40⟩ : ∃ Y, sl b 40 = .slice (some ⟨Y, 0, none⟩) 2 2 ∧ Strs w1 (some ⟨Y, 0, none⟩) yx := hdep 26 _ _ rfl rfl (by kernel_rfl)
      exact ok_val' rfl rfl (want_none rfl b) (by simp [go_sem, f40] <;> rfl) hR hb0 ⟨_, rfl, g40⟩
    · have f39 : sl b 39 = .agg #[.string ⟨#[97]⟩, .int .i64 1, .int .i64 0, .int .i64 0, .slice none 0 0, .slice none 0 0, .bool false] := hdep 25 _ _ rfl rfl (by kernel_rfl)
      obtain ⟨Y27, f41, g41⟩ : ∃ Y, sl b 41 = .agg #[.string ⟨#[99]⟩, .int .i64 1, .int .i64 0, .int .i64 0, .slice none 0 0, .slice (some ⟨Y, 0, none⟩) 2 2, .bool false] ∧ Strs w1 (some ⟨Y, 0, none⟩) yx := hdep 27 _ _ rfl rfl (by kernel_rfl)
      exact ok_val' rfl rfl (want_none rfl b) (by simp [go_sem, f39, f41] <;> first | rfl | exact ⟨rfl, rfl⟩) (hR.alloc hR.size _) (hb0.alloc (Nat.le_refl _) _) ⟨_, rfl, [ptA, (ptCy Y27)], rfl, pods_new2 _ _ _ _ (bare_ok rfl rfl rfl rfl) ⟨strs_nil _, g41⟩ rfl, by kernel_rfl⟩
    · obtain ⟨B28, f42, g42⟩ : ∃ B, sl b 42 = .slice (some ⟨B, 0, none⟩) 2 2 ∧ GoodPods w1 B 2 1 1 := hdep 28 _ _ rfl rfl (by kernel_rfl)
      exact ok_val' rfl rfl (want_none rfl b) (by simp [go_sem, f42] <;> rfl) hR hb0 ⟨_, rfl, g42⟩
    · exact ok_val' rfl rfl (want_none rfl b) (by simp [go_sem, o3, m0, m1, m2, m3, m4, m5, m6]) hR hb0 rfl
    · have f44 : sl b 44 = .agg #[.string ⟨#[97]⟩, .int .i64 1, .int .i64 0, .int .i64 0, .slice none 0 0, .slice none 0 0, .bool false] := hdep 30 _ _ rfl rfl (by kernel_rfl)
      exact ok_val' rfl rfl (want_none rfl b) (by simp [go_sem, f44] <;> first | rfl | exact ⟨rfl, rfl⟩) (hR.alloc hR.size _) (hb0.alloc (Nat.le_refl _) _) ⟨_, rfl, [ptA], rfl, pods_new1 _ _ _ (bare_ok rfl rfl rfl rfl) rfl, by kernel_rfl⟩
    · obtain ⟨B31, f45, g45⟩ : ∃ B, sl b 45 = .slice (some ⟨B, 0, none⟩) 1 1 ∧ GoodPods w1 B 1 1000000 2 := hdep 31 _ _ rfl rfl (by kernel_rfl)
      exact ok_val' rfl rfl (want_none rfl b) (by simp [go_sem, f45] <;> rfl) hR hb0 ⟨_, rfl, g45⟩
    · exact ok_val' rfl rfl (want_none rfl b) (by simp [go_sem, o4, k0, k1, k2, k3, k4, k5, k6]) hR hb0 rfl
    · have f47 : sl b 47 = .agg #[.string ⟨#[206, 178]⟩, .int .i64 2, .int .i64 1099511627776, .int .i64 0, .slice (some ⟨X, 0, none⟩) 2 2, .slice none 0 0, .bool false] := hdep 33 _ _ rfl rfl (by kernel_rfl)
      exact ok_val' rfl rfl (want_none rfl b) (by simp [go_sem, f47] <;> first | rfl | exact ⟨rfl, rfl⟩) (hR.alloc hR.size _) (hb0.alloc (Nat.le_refl _) _) ⟨_, rfl, [ptB X], rfl, pods_new1 _ _ _ ⟨hxy, strs_nil _⟩ rfl, by kernel_rfl⟩
    · obtain ⟨B34, f48, g48⟩ : ∃ B, sl b 48 = .slice (some ⟨B, 0, none⟩) 1 1 ∧ GoodPods w1 B 1 999999 0 := hdep 34 _ _ rfl rfl (by kernel_rfl)
      exact ok_val' rfl rfl (want_none rfl b) (by simp [go_sem, f48] <;> rfl) hR hb0 ⟨_, rfl, g48⟩
    · have hmk := run_makeSlice (P := Try.prog) w1 45 26 _ _ Try.underlying45 rfl rfl .i64 .i64 9 9 (by decide) (by decide) (of_decide_eq_true (by kernel_rfl)) (of_decide_eq_true (by kernel_rfl)) (by decide)
      exact ok_val' rfl rfl (want_none rfl b) (by simp [go_sem, hmk] <;> first | rfl | exact ⟨rfl, rfl⟩) (hR.alloc hR.size _) (hb0.alloc (Nat.le_refl _) _) ⟨_, rfl, List.replicate 9 ptZ, rfl, pods_alloc _ _ _ (by kernel_rfl) (fun p hp => by obtain rfl := List.eq_of_mem_replicate hp; exact bare_ok rfl rfl rfl rfl) (by simp), by kernel_rfl⟩
    · obtain ⟨B36, f50, g50⟩ : ∃ B, sl b 50 = .slice (some ⟨B, 0, none⟩) 9 9 ∧ GoodPods w1 B 9 1 3 := hdep 36 _ _ rfl rfl (by kernel_rfl)
      exact ok_val' rfl rfl (want_none rfl b) (by simp [go_sem, f50] <;> rfl) hR hb0 ⟨_, rfl, g50⟩
    · obtain ⟨B3, f17, g17⟩ : ∃ B, sl b 17 = .agg #[.int .i64 1, .slice (some ⟨B, 0, none⟩) 2 2] ∧ GoodPods w1 B 2 1 0 := hdep 3 _ _ rfl rfl (by kernel_rfl)
      obtain ⟨B6, f20, g20⟩ : ∃ B, sl b 20 = .agg #[.int .i64 0, .slice (some ⟨B, 0, none⟩) 1 1] ∧ GoodPods w1 B 1 0 2 := hdep 6 _ _ rfl rfl (by kernel_rfl)
      have f21 : sl b 21 = .agg #[.int .i64 1, .slice none 0 0] := hdep 7 _ _ rfl rfl (by kernel_rfl)
      obtain ⟨B11, f25, g25⟩ : ∃ B, sl b 25 = .agg #[.int .i64 1, .slice (some ⟨B, 0, none⟩) 2 2] ∧ GoodPods w1 B 2 1 4 := hdep 11 _ _ rfl rfl (by kernel_rfl)
      obtain ⟨B15, f29, g29⟩ : ∃ B, sl b 29 = .agg #[.int .i64 1, .slice (some ⟨B, 0, none⟩) 2 2] ∧ GoodPods w1 B 2 1 2 := hdep 15 _ _ rfl rfl (by kernel_rfl)
      obtain ⟨B19, f33, g33⟩ : ∃ B, sl b 33 = .agg #[.int .i64 1, .slice (some ⟨B, 0, none⟩) 2 2] ∧ GoodPods w1 B 2 1 1 := hdep 19 _ _ rfl rfl (by kernel_rfl)
      obtain ⟨B24, f38, g38⟩ : ∃ B, sl b 38 = .agg #[.int .i64 1, .slice (some ⟨B, 0, none⟩) 2 2] ∧ GoodPods w1 B 2 1 2 := hdep 24 _ _ rfl rfl (by kernel_rfl)
      obtain ⟨B29, f43, g43⟩ : ∃ B, sl b 43 = .agg #[.int .i64 1, .slice (some ⟨B, 0, none⟩) 2 2] ∧ GoodPods w1 B 2 1 1 := hdep 29 _ _ rfl rfl (by kernel_rfl)
      obtain ⟨B32, f46, g46⟩ : ∃ B, sl b 46 = .agg #[.int .i64 1000000, .slice (some ⟨B, 0, none⟩) 1 1] ∧ GoodPods w1 B 1 1000000 2 := hdep 32 _ _ rfl rfl (by kernel_rfl)
      obtain ⟨B35, f49, g49⟩ : ∃ B, sl b 49 = .agg #[.int .i64 999999, .slice (some ⟨B, 0, none⟩) 1 1] ∧ GoodPods w1 B 1 999999 0 := hdep 35 _ _ rfl rfl (by kernel_rfl)
      obtain ⟨B37, f51, g51⟩ : ∃ B, sl b 51 = .agg #[.int .i64 1, .slice (some ⟨B, 0, none⟩) 9 9] ∧ GoodPods w1 B 9 1 3 := hdep 37 _ _ rfl rfl (by kernel_rfl)
      refine ok_val' rfl rfl (want_none rfl b) (by simp [go_sem, f17, f20, f21, f25, f29, f33, f38, f43, f46, f49, f51] <;> first | rfl | exact ⟨rfl, rfl⟩) (hR.alloc hR.size _) (hb0.alloc (Nat.le_refl _) _) ⟨_, rfl, ?_⟩
      intro k hk
      rcases (by omega : k = 0 ∨ k = 1 ∨ k = 2 ∨ k = 3 ∨ k = 4 ∨ k = 5 ∨ k = 6 ∨ k = 7 ∨ k = 8 ∨ k = 9 ∨ k = 10) with rfl | rfl | rfl | rfl | rfl | rfl | rfl | rfl | rfl | rfl | rfl
      · obtain ⟨l, hl1, hl2, hl3⟩ := g17
        exact ⟨_, _, _, l, by simp, by simp, hl1, hl2.later (up (Below.refl _ _) _), hl3⟩
      · obtain ⟨l, hl1, hl2, hl3⟩ := g20
        exact ⟨_, _, _, l, by simp, by simp, hl1, hl2.later (up (Below.refl _ _) _), hl3⟩
      · exact ⟨1, none, 0, [], by simp, by simp, rfl, ⟨by simp, fun i p hp => by simp at hp⟩, by kernel_rfl⟩
      · obtain ⟨l, hl1, hl2, hl3⟩ := g25
        exact ⟨_, _, _, l, by simp, by simp, hl1, hl2.later (up (Below.refl _ _) _), hl3⟩
      · obtain ⟨l, hl1, hl2, hl3⟩ := g29
        exact ⟨_, _, _, l, by simp, by simp, hl1, hl2.later (up (Below.refl _ _) _), hl3⟩
      · obtain ⟨l, hl1, hl2, hl3⟩ := g33
        exact ⟨_, _, _, l, by simp, by simp, hl1, hl2.later (up (Below.refl _ _) _), hl3⟩
      · obtain ⟨l, hl1, hl2, hl3⟩ := g38
        exact ⟨_, _, _, l, by simp, by simp, hl1, hl2.later (up (Below.refl _ _) _), hl3⟩
      · obtain ⟨l, hl1, hl2, hl3⟩ := g43
        exact ⟨_, _, _, l, by simp, by simp, hl1, hl2.later (up (Below.refl _ _) _), hl3⟩
      · obtain ⟨l, hl1, hl2, hl3⟩ := g46
        exact ⟨_, _, _, l, by simp, by simp, hl1, hl2.later (up (Below.refl _ _) _), hl3⟩
      · obtain ⟨l, hl1, hl2, hl3⟩ := g49
        exact ⟨_, _, _, l, by simp, by simp, hl1, hl2.later (up (Below.refl _ _) _), hl3⟩
      · obtain ⟨l, hl1, hl2, hl3⟩ := g51
        exact ⟨_, _, _, l, by simp, by simp, hl1, hl2.later (up (Below.refl _ _) _), hl3⟩
    · obtain ⟨G38, f52, g52⟩ : ∃ G, sl b 52 = .slice (some ⟨G, 0, none⟩) 11 11 ∧ GoodGangs w1 G := hdep 38 _ _ rfl rfl (by kernel_rfl)
      exact ok_val' rfl rfl (want_none rfl b) (by simp [go_sem, f52] <;> rfl) hR hb0 ⟨_, rfl, g52⟩
    · cases ho
  case rest =>
    intro b w1 hR hsz hdf hold hF
    have f0 : sl b 0 = .int .i64 wh := hold 0 (by kernel_rfl)
    have f2 : sl b 2 = .bool false := hold 2 (by kernel_rfl)
    have f3 : sl b 3 = .pointer (some ⟨A, 0, none⟩) := hold 3 (by kernel_rfl)
    have f4 : sl b 4 = .pointer (some ⟨C, 0, none⟩) := hold 4 (by kernel_rfl)
    obtain ⟨G39, f5, g5⟩ : ∃ G, sl b 5 = .slice (some ⟨G, 0, none⟩) 11 11 ∧ GoodGangs w1 G := hF 39 _ _ rfl rfl
    have hB : b = _ := act_list b (show b.tmps.size = 68 from hsz) hdf
    rw [hB]
    simp only [List.range, List.range.loop, List.map_cons, List.map_nil, f0, f2, f3, f4, f5]
    generalize sl b 1 = v1, sl b 6 = v6, sl b 7 = v7, sl b 8 = v8, sl b 9 = v9, sl b 10 = v10, sl b 11 = v11, sl b 12 = v12, sl b 13 = v13, sl b 14 = v14, sl b 15 = v15, sl b 16 = v16, sl b 17 = v17, sl b 18 = v18, sl b 19 = v19, sl b 20 = v20, sl b 21 = v21, sl b 22 = v22, sl b 23 = v23, sl b 24 = v24, sl b 25 = v25, sl b 26 = v26, sl b 27 = v27, sl b 28 = v28, sl b 29 = v29, sl b 30 = v30, sl b 31 = v31, sl b 32 = v32, sl b 33 = v33, sl b 34 = v34, sl b 35 = v35, sl b 36 = v36, sl b 37 = v37, sl b 38 = v38, sl b 39 = v39, sl b 40 = v40, sl b 41 = v41, sl b 42 = v42, sl b 43 = v43, sl b 44 = v44, sl b 45 = v45, sl b 46 = v46, sl b 47 = v47, sl b 48 = v48, sl b 49 = v49, sl b 50 = v50, sl b 51 = v51, sl b 52 = v52, sl b 53 = v53, sl b 54 = v54, sl b 55 = v55, sl b 56 = v56, sl b 57 = v57, sl b 58 = v58, sl b 59 = v59, sl b 60 = v60, sl b 61 = v61, sl b 62 = v62, sl b 63 = v63, sl b 64 = v64, sl b 65 = v65, sl b 66 = v66, sl b 67 = v67
    clear hB hold hsz hdf hF f0 f2 f3 f4 f5
    obtain ⟨q, hq⟩ : ∃ q, wh % 11 = q := ⟨_, rfl⟩
    have kW := fun W => within_any wh 11 q (by decide) (by decide) hq W
    obtain ⟨K, rfl⟩ : ∃ K : Nat, q = K := ⟨q.toNat, by omega⟩
    have hK : K < 11 := by omega
    clear hq
    have hd := up (Below.refl w1.heap.size w1) (.cells #[.int .i64 0, .int .i64 2, .int .i64 3, .int .i64 4, .int .i64 2, .int .i64 1, .int .i64 2, .int .i64 1, .int .i64 2, .int .i64 0, .int .i64 3] 32)
    obtain ⟨id, a, n, l, h1, h2, h3, h4, h5⟩ := (g5.later hd) K hK
    have hD : (w1.alloc (.cells #[.int .i64 0, .int .i64 2, .int .i64 3, .int .i64 4, .int .i64 2, .int .i64 1, .int .i64 2, .int .i64 1, .int .i64 2, .int .i64 0, .int .i64 3] 32)).cell? ⟨w1.heap.size, K, none⟩ = some (.int .i64 (wants.getD K 0)) := by
      rcases (by omega : K = 0 ∨ K = 1 ∨ K = 2 ∨ K = 3 ∨ K = 4 ∨ K = 5 ∨ K = 6 ∨ K = 7 ∨ K = 8 ∨ K = 9 ∨ K = 10) with rfl | rfl | rfl | rfl | rfl | rfl | rfl | rfl | rfl | rfl | rfl <;> simp [wants]
    have B9 := b1.trans ((hR.trans (hd.mono hR.size)).mono b1.size)
    clear hd g5 hR
    go_wp2_with (first
      | (go_at_call 11; refine (kW _).mono ?_; rintro e w9 ⟨rfl, rfl⟩))
    refine last_known _ _ K id _ a n l _ _ rfl rfl rfl rfl hK h1 h2 h3 h4 h5 hD ?_
    intro b wb hbb hdf hsz h2'
    go_wp2
    exact bodyPost_ret (by simp [results, Try.results7, go_sem, h2']) hdf ⟨rfl, B9.trans (hbb.mono B9.size)⟩

end Go.Proofs.Ytgcicillmljglaa
