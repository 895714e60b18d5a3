/- The walk of FitKnown. -/
import Derived.Test.YtdgeigkdplbdbaaK
import Derived.Test.YtdgeigkdplbdbaaBX
import Derived.Test.YtdgeigkdplbdbaaRL
import Derived.Deep.DeepCutAuto
import Derived.Deep.QuietTactic
import Derived.WalkSmall
namespace Go.Proofs.Ytdgeigkdplbdbaa
open Go.RowKit Go.Maps
set_option linter.unusedSimpArgs false
set_option linter.unusedVariables false

theorem strs_box {w : World} {B : Nat} {t : TypeId} {ss : List ByteArray} (h : Box w B (ss.map Value.string).toArray t) (hl : ss.length ≤ 1000) : Strs w (some ⟨B, 0, none⟩) ss :=
  ⟨hl, fun i hi => by
    refine ⟨_, rfl, ?_⟩
    have hc : w.cell? ⟨B, i, none⟩ = some (.string (ss.getD i ByteArray.empty)) := h.cell (by simp [List.getD, List.getElem?_eq_getElem hi])
    rcases Nat.eq_zero_or_pos i with rfl | hp
    · simpa [Addr.add] using hc
    · simpa [Addr.add, show i ≠ 0 by omega] using hc⟩
theorem place_two {w : World} {B : Nat} {p q : PlaceT} {t : TypeId} (h : Box w B #[.string p.pod, .string p.node, .int .i64 p.cpu, .int .i64 p.mem, .bool p.al, .string q.pod, .string q.node, .int .i64 q.cpu, .int .i64 q.mem, .bool q.al] t) : Places w (some ⟨B, 0, none⟩) [p, q] :=
  ⟨by simp, fun i r hr => by
    cases i with
    | zero =>
      obtain rfl : p = r := by simpa using hr
      exact ⟨B, 0, rfl, h.cell rfl, h.cell rfl, h.cell rfl, h.cell rfl, h.cell rfl⟩
    | succ i =>
      cases i with
      | zero =>
        obtain rfl : q = r := by simpa using hr
        exact ⟨B, 0, rfl, h.cell rfl, h.cell rfl, h.cell rfl, h.cell rfl, h.cell rfl⟩
      | succ i => simp at hr⟩
theorem two_short {s t : ByteArray} (h : s.size ≤ 1000) (h' : t.size ≤ 1000) (i : Nat) : (([s, t] : List ByteArray).getD i ByteArray.empty).size ≤ maxLen := by
  rcases i with _ | _ | i
  · simp only [List.getD_cons_zero]; unfold maxLen; omega
  · simp only [List.getD_cons_succ, List.getD_cons_zero]; unfold maxLen; omega
  · simp
theorem one_short {s : ByteArray} (h : s.size ≤ 1000) (i : Nat) : (([s] : List ByteArray).getD i ByteArray.empty).size ≤ maxLen := by
  cases i with
  | zero => simp only [List.getD_cons_zero]; unfold maxLen; omega
  | succ i => simp

def knownF (S1 S2 S3 S4 S5 S6 S7 S8 : Nat) : Nat → Value → World → Prop
  | 0, v, _ => v = .agg #[.string ⟨#[112]⟩, .int .i64 0, .int .i64 2, .int .i64 3, .slice (some ⟨S1, 0, none⟩) 1 1, .slice (some ⟨S2, 0, none⟩) 1 1, .bool false]
  | 1, v, _ => v = .agg #[.string ⟨#[110]⟩, .int .i64 5, .int .i64 5, .slice (some ⟨S3, 0, none⟩) 2 2, .slice (some ⟨S4, 0, none⟩) 1 1, .bool false]
  | 2, v, _ => v = .agg #[.int .i64 3, .int .i64 2]
  | 3, v, _ => v = .int .i64 0
  | 4, v, _ => v = .agg #[.string ⟨#[112]⟩, .int .i64 0, .int .i64 2, .int .i64 3, .slice (some ⟨S1, 0, none⟩) 1 1, .slice (some ⟨S2, 0, none⟩) 1 1, .bool false]
  | 5, v, _ => v = .agg #[.string ⟨#[110]⟩, .int .i64 5, .int .i64 5, .slice none 0 0, .slice (some ⟨S4, 0, none⟩) 1 1, .bool true]
  | 6, v, _ => v = .agg #[.int .i64 9, .int .i64 0]
  | 7, v, _ => v = .slice (some ⟨S8, 0, none⟩) 2 2
  | 8, v, _ => v = .int .i64 1
  | 9, v, _ => v = .agg #[.string ⟨#[112]⟩, .int .i64 0, .int .i64 2, .int .i64 3, .slice (some ⟨S1, 0, none⟩) 1 1, .slice (some ⟨S2, 0, none⟩) 1 1, .bool false]
  | 10, v, _ => v = .agg #[.string ⟨#[110]⟩, .int .i64 5, .int .i64 5, .slice (some ⟨S5, 0, none⟩) 1 1, .slice (some ⟨S4, 0, none⟩) 1 1, .bool false]
  | 11, v, _ => v = .agg #[.int .i64 9, .int .i64 0]
  | 12, v, _ => v = .slice (some ⟨S8, 0, none⟩) 2 2
  | 13, v, _ => v = .int .i64 2
  | 14, v, _ => v = .agg #[.string ⟨#[112]⟩, .int .i64 0, .int .i64 2, .int .i64 3, .slice (some ⟨S1, 0, none⟩) 1 1, .slice (some ⟨S2, 0, none⟩) 1 1, .bool false]
  | 15, v, _ => v = .agg #[.string ⟨#[110]⟩, .int .i64 5, .int .i64 5, .slice (some ⟨S3, 0, none⟩) 2 2, .slice (some ⟨S6, 0, none⟩) 2 2, .bool false]
  | 16, v, _ => v = .agg #[.int .i64 9, .int .i64 0]
  | 17, v, _ => v = .slice (some ⟨S8, 0, none⟩) 2 2
  | 18, v, _ => v = .int .i64 3
  | 19, v, _ => v = .agg #[.string ⟨#[112]⟩, .int .i64 0, .int .i64 2, .int .i64 3, .slice (some ⟨S1, 0, none⟩) 1 1, .slice (some ⟨S2, 0, none⟩) 1 1, .bool false]
  | 20, v, _ => v = .agg #[.string ⟨#[110]⟩, .int .i64 5, .int .i64 5, .slice (some ⟨S3, 0, none⟩) 2 2, .slice (some ⟨S4, 0, none⟩) 1 1, .bool false]
  | 21, v, _ => v = .agg #[.int .i64 4, .int .i64 0]
  | 22, v, _ => v = .slice (some ⟨S8, 0, none⟩) 2 2
  | 23, v, _ => v = .int .i64 4
  | 24, v, _ => v = .agg #[.string ⟨#[112]⟩, .int .i64 0, .int .i64 2, .int .i64 3, .slice (some ⟨S1, 0, none⟩) 1 1, .slice (some ⟨S2, 0, none⟩) 1 1, .bool false]
  | 25, v, _ => v = .agg #[.string ⟨#[110]⟩, .int .i64 5, .int .i64 5, .slice (some ⟨S3, 0, none⟩) 2 2, .slice (some ⟨S4, 0, none⟩) 1 1, .bool false]
  | 26, v, _ => v = .agg #[.int .i64 0, .int .i64 3]
  | 27, v, _ => v = .slice (some ⟨S8, 0, none⟩) 2 2
  | 28, v, _ => v = .int .i64 4
  | 29, v, _ => v = .agg #[.string ⟨#[112]⟩, .int .i64 0, .int .i64 2, .int .i64 3, .slice (some ⟨S1, 0, none⟩) 1 1, .slice (some ⟨S2, 0, none⟩) 1 1, .bool true]
  | 30, v, _ => v = .agg #[.string ⟨#[110]⟩, .int .i64 5, .int .i64 5, .slice (some ⟨S3, 0, none⟩) 2 2, .slice (some ⟨S4, 0, none⟩) 1 1, .bool false]
  | 31, v, _ => v = .agg #[.int .i64 0, .int .i64 0]
  | 32, v, _ => v = .slice (some ⟨S7, 0, none⟩) 1 1
  | 33, v, _ => v = .int .i64 5
  | 34, v, _ => v = .agg #[.string ⟨#[112]⟩, .int .i64 0, .int .i64 2, .int .i64 3, .slice (some ⟨S1, 0, none⟩) 1 1, .slice (some ⟨S2, 0, none⟩) 1 1, .bool true]
  | 35, v, _ => v = .agg #[.string ⟨#[110]⟩, .int .i64 5, .int .i64 5, .slice (some ⟨S3, 0, none⟩) 2 2, .slice (some ⟨S4, 0, none⟩) 1 1, .bool false]
  | 36, v, _ => v = .agg #[.int .i64 0, .int .i64 0]
  | 37, v, _ => v = .slice (some ⟨S8, 0, none⟩) 2 2
  | 38, v, _ => v = .int .i64 5
  | 39, v, _ => v = .agg #[.string ⟨#[112]⟩, .int .i64 0, .int .i64 2, .int .i64 3, .slice (some ⟨S1, 0, none⟩) 1 1, .slice (some ⟨S2, 0, none⟩) 1 1, .bool false]
  | 40, v, _ => v = .agg #[.string ⟨#[110]⟩, .int .i64 5, .int .i64 5, .slice (some ⟨S3, 0, none⟩) 2 2, .slice (some ⟨S4, 0, none⟩) 1 1, .bool false]
  | 41, v, _ => v = .agg #[.int .i64 0, .int .i64 0]
  | 42, v, _ => v = .slice (some ⟨S8, 0, none⟩) 2 2
  | 43, v, _ => v = .int .i64 6
  | 44, v, _ => v = .agg #[.string ⟨#[112]⟩, .int .i64 0, .int .i64 2, .int .i64 3, .slice (some ⟨S1, 0, none⟩) 1 1, .slice (some ⟨S2, 0, none⟩) 1 1, .bool false]
  | 45, v, _ => v = .agg #[.string ⟨#[110]⟩, .int .i64 5, .int .i64 5, .slice (some ⟨S3, 0, none⟩) 2 2, .slice (some ⟨S4, 0, none⟩) 1 1, .bool false]
  | 46, v, _ => v = .agg #[.int .i64 0, .int .i64 0]
  | 47, v, _ => v = .slice (some ⟨S7, 0, none⟩) 1 1
  | 48, v, _ => v = .int .i64 0
  | 49, v, _ => v = .agg #[.string ⟨#[112]⟩, .int .i64 0, .int .i64 2, .int .i64 3, .slice (some ⟨S1, 0, none⟩) 1 1, .slice (some ⟨S2, 0, none⟩) 1 1, .bool true]
  | 50, v, _ => v = .agg #[.string ⟨#[110]⟩, .int .i64 5, .int .i64 5, .slice (some ⟨S3, 0, none⟩) 2 2, .slice (some ⟨S4, 0, none⟩) 1 1, .bool false]
  | 51, v, _ => v = .agg #[.int .i64 0, .int .i64 0]
  | 52, v, _ => v = .int .i64 0
  | 53, v, _ => v = .agg #[.string ⟨#[112]⟩, .int .i64 0, .int .i64 2, .int .i64 3, .slice (some ⟨S1, 0, none⟩) 1 1, .slice (some ⟨S2, 0, none⟩) 1 1, .bool false]
  | 54, v, _ => v = .agg #[.string ⟨#[110]⟩, .int .i64 5, .int .i64 5, .slice (some ⟨S3, 0, none⟩) 2 2, .slice (some ⟨S4, 0, none⟩) 1 1, .bool false]
  | 55, v, _ => v = .agg #[.int .i64 9223372036854775807, .int .i64 0]
  | 56, v, _ => v = .int .i64 4
  | 57, v, w => ∃ G, v = .slice (some ⟨G, 0, none⟩) 12 12 ∧ Box w G #[.int .i64 0, .int .i64 1, .int .i64 2, .int .i64 3, .int .i64 4, .int .i64 4, .int .i64 5, .int .i64 5, .int .i64 6, .int .i64 0, .int .i64 0, .int .i64 4] 3
  | 58, v, w => ∃ G, v = .slice (some ⟨G, 0, none⟩) 12 12 ∧ Box w G #[.int .i64 0, .int .i64 1, .int .i64 2, .int .i64 3, .int .i64 4, .int .i64 4, .int .i64 5, .int .i64 5, .int .i64 6, .int .i64 0, .int .i64 0, .int .i64 4] 3
  | _, _, _ => True

set_option maxRecDepth 100000 in
set_option maxHeartbeats 8000000 in
theorem fitKnown_walk (wh : Int) (w : World) :
    Calls Try.prog 4 #[.int .i64 wh] w fun e w' => e = .returned (.bool true) ∧ Below w.heap.size w w' := by
  go_enter Try.func4, Try.ntmps4
  go_upto_region 7 with (first
    | (go_at_call 9; refine (known_on _ _ (Below.refl _ _)).mono ?_; rintro e w1 ⟨rfl, hW1⟩))
  have x0 : Box (((((((w1.alloc (.cells #[.string ⟨#[98, 105, 103]⟩] 9)).alloc (.cells #[.string ⟨#[206, 179]⟩] 9)).alloc (.cells #[.string ⟨#[112]⟩, .int .i64 0, .int .i64 2, .int .i64 3, .slice (some ⟨w1.heap.size, 0, none⟩) 1 1, .slice (some ⟨w1.heap.size + 1, 0, none⟩) 1 1, .bool false] 28)).alloc (.cells #[.string ⟨#[98, 105, 103]⟩, .string ⟨#[115, 115, 100]⟩] 9)).alloc (.cells #[.string ⟨#[206, 179]⟩] 9)).alloc (.cells #[.string ⟨#[110]⟩, .int .i64 5, .int .i64 5, .slice (some ⟨w1.heap.size + 1 + 1 + 1, 0, none⟩) 2 2, .slice (some ⟨w1.heap.size + 1 + 1 + 1 + 1, 0, none⟩) 1 1, .bool false] 31)).alloc (.cells #[.string ⟨#[112]⟩, .int .i64 0, .int .i64 2, .int .i64 3, .slice (some ⟨w1.heap.size, 0, none⟩) 1 1, .slice (some ⟨w1.heap.size + 1, 0, none⟩) 1 1, .bool true] 28)) (w1.heap.size) #[.string ⟨#[98, 105, 103]⟩] 9 := (((((((Box.new w1 _ _ (by simp)).up _).up _).up _).up _).up _).up _)
  have x1 : Box (((((((w1.alloc (.cells #[.string ⟨#[98, 105, 103]⟩] 9)).alloc (.cells #[.string ⟨#[206, 179]⟩] 9)).alloc (.cells #[.string ⟨#[112]⟩, .int .i64 0, .int .i64 2, .int .i64 3, .slice (some ⟨w1.heap.size, 0, none⟩) 1 1, .slice (some ⟨w1.heap.size + 1, 0, none⟩) 1 1, .bool false] 28)).alloc (.cells #[.string ⟨#[98, 105, 103]⟩, .string ⟨#[115, 115, 100]⟩] 9)).alloc (.cells #[.string ⟨#[206, 179]⟩] 9)).alloc (.cells #[.string ⟨#[110]⟩, .int .i64 5, .int .i64 5, .slice (some ⟨w1.heap.size + 1 + 1 + 1, 0, none⟩) 2 2, .slice (some ⟨w1.heap.size + 1 + 1 + 1 + 1, 0, none⟩) 1 1, .bool false] 31)).alloc (.cells #[.string ⟨#[112]⟩, .int .i64 0, .int .i64 2, .int .i64 3, .slice (some ⟨w1.heap.size, 0, none⟩) 1 1, .slice (some ⟨w1.heap.size + 1, 0, none⟩) 1 1, .bool true] 28)) (w1.heap.size + 1) #[.string ⟨#[206, 179]⟩] 9 := ((((((Box.new (w1.alloc (.cells #[.string ⟨#[98, 105, 103]⟩] 9)) _ _ (by simp)).up _).up _).up _).up _).up _)
  have x2 : Box (((((((w1.alloc (.cells #[.string ⟨#[98, 105, 103]⟩] 9)).alloc (.cells #[.string ⟨#[206, 179]⟩] 9)).alloc (.cells #[.string ⟨#[112]⟩, .int .i64 0, .int .i64 2, .int .i64 3, .slice (some ⟨w1.heap.size, 0, none⟩) 1 1, .slice (some ⟨w1.heap.size + 1, 0, none⟩) 1 1, .bool false] 28)).alloc (.cells #[.string ⟨#[98, 105, 103]⟩, .string ⟨#[115, 115, 100]⟩] 9)).alloc (.cells #[.string ⟨#[206, 179]⟩] 9)).alloc (.cells #[.string ⟨#[110]⟩, .int .i64 5, .int .i64 5, .slice (some ⟨w1.heap.size + 1 + 1 + 1, 0, none⟩) 2 2, .slice (some ⟨w1.heap.size + 1 + 1 + 1 + 1, 0, none⟩) 1 1, .bool false] 31)).alloc (.cells #[.string ⟨#[112]⟩, .int .i64 0, .int .i64 2, .int .i64 3, .slice (some ⟨w1.heap.size, 0, none⟩) 1 1, .slice (some ⟨w1.heap.size + 1, 0, none⟩) 1 1, .bool true] 28)) (w1.heap.size + 1 + 1) #[.string ⟨#[112]⟩, .int .i64 0, .int .i64 2, .int .i64 3, .slice (some ⟨w1.heap.size, 0, none⟩) 1 1, .slice (some ⟨w1.heap.size + 1, 0, none⟩) 1 1, .bool false] 28 := (((((Box.new ((w1.alloc (.cells #[.string ⟨#[98, 105, 103]⟩] 9)).alloc (.cells #[.string ⟨#[206, 179]⟩] 9)) _ _ (by simp)).up _).up _).up _).up _)
  have x3 : Box (((((((w1.alloc (.cells #[.string ⟨#[98, 105, 103]⟩] 9)).alloc (.cells #[.string ⟨#[206, 179]⟩] 9)).alloc (.cells #[.string ⟨#[112]⟩, .int .i64 0, .int .i64 2, .int .i64 3, .slice (some ⟨w1.heap.size, 0, none⟩) 1 1, .slice (some ⟨w1.heap.size + 1, 0, none⟩) 1 1, .bool false] 28)).alloc (.cells #[.string ⟨#[98, 105, 103]⟩, .string ⟨#[115, 115, 100]⟩] 9)).alloc (.cells #[.string ⟨#[206, 179]⟩] 9)).alloc (.cells #[.string ⟨#[110]⟩, .int .i64 5, .int .i64 5, .slice (some ⟨w1.heap.size + 1 + 1 + 1, 0, none⟩) 2 2, .slice (some ⟨w1.heap.size + 1 + 1 + 1 + 1, 0, none⟩) 1 1, .bool false] 31)).alloc (.cells #[.string ⟨#[112]⟩, .int .i64 0, .int .i64 2, .int .i64 3, .slice (some ⟨w1.heap.size, 0, none⟩) 1 1, .slice (some ⟨w1.heap.size + 1, 0, none⟩) 1 1, .bool true] 28)) (w1.heap.size + 1 + 1 + 1) #[.string ⟨#[98, 105, 103]⟩, .string ⟨#[115, 115, 100]⟩] 9 := ((((Box.new (((w1.alloc (.cells #[.string ⟨#[98, 105, 103]⟩] 9)).alloc (.cells #[.string ⟨#[206, 179]⟩] 9)).alloc (.cells #[.string ⟨#[112]⟩, .int .i64 0, .int .i64 2, .int .i64 3, .slice (some ⟨w1.heap.size, 0, none⟩) 1 1, .slice (some ⟨w1.heap.size + 1, 0, none⟩) 1 1, .bool false] 28)) _ _ (by simp)).up _).up _).up _)
  have x4 : Box (((((((w1.alloc (.cells #[.string ⟨#[98, 105, 103]⟩] 9)).alloc (.cells #[.string ⟨#[206, 179]⟩] 9)).alloc (.cells #[.string ⟨#[112]⟩, .int .i64 0, .int .i64 2, .int .i64 3, .slice (some ⟨w1.heap.size, 0, none⟩) 1 1, .slice (some ⟨w1.heap.size + 1, 0, none⟩) 1 1, .bool false] 28)).alloc (.cells #[.string ⟨#[98, 105, 103]⟩, .string ⟨#[115, 115, 100]⟩] 9)).alloc (.cells #[.string ⟨#[206, 179]⟩] 9)).alloc (.cells #[.string ⟨#[110]⟩, .int .i64 5, .int .i64 5, .slice (some ⟨w1.heap.size + 1 + 1 + 1, 0, none⟩) 2 2, .slice (some ⟨w1.heap.size + 1 + 1 + 1 + 1, 0, none⟩) 1 1, .bool false] 31)).alloc (.cells #[.string ⟨#[112]⟩, .int .i64 0, .int .i64 2, .int .i64 3, .slice (some ⟨w1.heap.size, 0, none⟩) 1 1, .slice (some ⟨w1.heap.size + 1, 0, none⟩) 1 1, .bool true] 28)) (w1.heap.size + 1 + 1 + 1 + 1) #[.string ⟨#[206, 179]⟩] 9 := (((Box.new ((((w1.alloc (.cells #[.string ⟨#[98, 105, 103]⟩] 9)).alloc (.cells #[.string ⟨#[206, 179]⟩] 9)).alloc (.cells #[.string ⟨#[112]⟩, .int .i64 0, .int .i64 2, .int .i64 3, .slice (some ⟨w1.heap.size, 0, none⟩) 1 1, .slice (some ⟨w1.heap.size + 1, 0, none⟩) 1 1, .bool false] 28)).alloc (.cells #[.string ⟨#[98, 105, 103]⟩, .string ⟨#[115, 115, 100]⟩] 9)) _ _ (by simp)).up _).up _)
  have x5 : Box (((((((w1.alloc (.cells #[.string ⟨#[98, 105, 103]⟩] 9)).alloc (.cells #[.string ⟨#[206, 179]⟩] 9)).alloc (.cells #[.string ⟨#[112]⟩, .int .i64 0, .int .i64 2, .int .i64 3, .slice (some ⟨w1.heap.size, 0, none⟩) 1 1, .slice (some ⟨w1.heap.size + 1, 0, none⟩) 1 1, .bool false] 28)).alloc (.cells #[.string ⟨#[98, 105, 103]⟩, .string ⟨#[115, 115, 100]⟩] 9)).alloc (.cells #[.string ⟨#[206, 179]⟩] 9)).alloc (.cells #[.string ⟨#[110]⟩, .int .i64 5, .int .i64 5, .slice (some ⟨w1.heap.size + 1 + 1 + 1, 0, none⟩) 2 2, .slice (some ⟨w1.heap.size + 1 + 1 + 1 + 1, 0, none⟩) 1 1, .bool false] 31)).alloc (.cells #[.string ⟨#[112]⟩, .int .i64 0, .int .i64 2, .int .i64 3, .slice (some ⟨w1.heap.size, 0, none⟩) 1 1, .slice (some ⟨w1.heap.size + 1, 0, none⟩) 1 1, .bool true] 28)) (w1.heap.size + 1 + 1 + 1 + 1 + 1) #[.string ⟨#[110]⟩, .int .i64 5, .int .i64 5, .slice (some ⟨w1.heap.size + 1 + 1 + 1, 0, none⟩) 2 2, .slice (some ⟨w1.heap.size + 1 + 1 + 1 + 1, 0, none⟩) 1 1, .bool false] 31 := ((Box.new (((((w1.alloc (.cells #[.string ⟨#[98, 105, 103]⟩] 9)).alloc (.cells #[.string ⟨#[206, 179]⟩] 9)).alloc (.cells #[.string ⟨#[112]⟩, .int .i64 0, .int .i64 2, .int .i64 3, .slice (some ⟨w1.heap.size, 0, none⟩) 1 1, .slice (some ⟨w1.heap.size + 1, 0, none⟩) 1 1, .bool false] 28)).alloc (.cells #[.string ⟨#[98, 105, 103]⟩, .string ⟨#[115, 115, 100]⟩] 9)).alloc (.cells #[.string ⟨#[206, 179]⟩] 9)) _ _ (by simp)).up _)
  have x6 : Box (((((((w1.alloc (.cells #[.string ⟨#[98, 105, 103]⟩] 9)).alloc (.cells #[.string ⟨#[206, 179]⟩] 9)).alloc (.cells #[.string ⟨#[112]⟩, .int .i64 0, .int .i64 2, .int .i64 3, .slice (some ⟨w1.heap.size, 0, none⟩) 1 1, .slice (some ⟨w1.heap.size + 1, 0, none⟩) 1 1, .bool false] 28)).alloc (.cells #[.string ⟨#[98, 105, 103]⟩, .string ⟨#[115, 115, 100]⟩] 9)).alloc (.cells #[.string ⟨#[206, 179]⟩] 9)).alloc (.cells #[.string ⟨#[110]⟩, .int .i64 5, .int .i64 5, .slice (some ⟨w1.heap.size + 1 + 1 + 1, 0, none⟩) 2 2, .slice (some ⟨w1.heap.size + 1 + 1 + 1 + 1, 0, none⟩) 1 1, .bool false] 31)).alloc (.cells #[.string ⟨#[112]⟩, .int .i64 0, .int .i64 2, .int .i64 3, .slice (some ⟨w1.heap.size, 0, none⟩) 1 1, .slice (some ⟨w1.heap.size + 1, 0, none⟩) 1 1, .bool true] 28)) (w1.heap.size + 1 + 1 + 1 + 1 + 1 + 1) #[.string ⟨#[112]⟩, .int .i64 0, .int .i64 2, .int .i64 3, .slice (some ⟨w1.heap.size, 0, none⟩) 1 1, .slice (some ⟨w1.heap.size + 1, 0, none⟩) 1 1, .bool true] 28 := (Box.new ((((((w1.alloc (.cells #[.string ⟨#[98, 105, 103]⟩] 9)).alloc (.cells #[.string ⟨#[206, 179]⟩] 9)).alloc (.cells #[.string ⟨#[112]⟩, .int .i64 0, .int .i64 2, .int .i64 3, .slice (some ⟨w1.heap.size, 0, none⟩) 1 1, .slice (some ⟨w1.heap.size + 1, 0, none⟩) 1 1, .bool false] 28)).alloc (.cells #[.string ⟨#[98, 105, 103]⟩, .string ⟨#[115, 115, 100]⟩] 9)).alloc (.cells #[.string ⟨#[206, 179]⟩] 9)).alloc (.cells #[.string ⟨#[110]⟩, .int .i64 5, .int .i64 5, .slice (some ⟨w1.heap.size + 1 + 1 + 1, 0, none⟩) 2 2, .slice (some ⟨w1.heap.size + 1 + 1 + 1 + 1, 0, none⟩) 1 1, .bool false] 31)) _ _ (by simp))
  have hW5 : Below w.heap.size w (((((((w1.alloc (.cells #[.string ⟨#[98, 105, 103]⟩] 9)).alloc (.cells #[.string ⟨#[206, 179]⟩] 9)).alloc (.cells #[.string ⟨#[112]⟩, .int .i64 0, .int .i64 2, .int .i64 3, .slice (some ⟨w1.heap.size, 0, none⟩) 1 1, .slice (some ⟨w1.heap.size + 1, 0, none⟩) 1 1, .bool false] 28)).alloc (.cells #[.string ⟨#[98, 105, 103]⟩, .string ⟨#[115, 115, 100]⟩] 9)).alloc (.cells #[.string ⟨#[206, 179]⟩] 9)).alloc (.cells #[.string ⟨#[110]⟩, .int .i64 5, .int .i64 5, .slice (some ⟨w1.heap.size + 1 + 1 + 1, 0, none⟩) 2 2, .slice (some ⟨w1.heap.size + 1 + 1 + 1 + 1, 0, none⟩) 1 1, .bool false] 31)).alloc (.cells #[.string ⟨#[112]⟩, .int .i64 0, .int .i64 2, .int .i64 3, .slice (some ⟨w1.heap.size, 0, none⟩) 1 1, .slice (some ⟨w1.heap.size + 1, 0, none⟩) 1 1, .bool true] 28)) := up (up (up (up (up (up (up hW1 _) _) _) _) _) _) _
  have hsz5 : (((((((w1.alloc (.cells #[.string ⟨#[98, 105, 103]⟩] 9)).alloc (.cells #[.string ⟨#[206, 179]⟩] 9)).alloc (.cells #[.string ⟨#[112]⟩, .int .i64 0, .int .i64 2, .int .i64 3, .slice (some ⟨w1.heap.size, 0, none⟩) 1 1, .slice (some ⟨w1.heap.size + 1, 0, none⟩) 1 1, .bool false] 28)).alloc (.cells #[.string ⟨#[98, 105, 103]⟩, .string ⟨#[115, 115, 100]⟩] 9)).alloc (.cells #[.string ⟨#[206, 179]⟩] 9)).alloc (.cells #[.string ⟨#[110]⟩, .int .i64 5, .int .i64 5, .slice (some ⟨w1.heap.size + 1 + 1 + 1, 0, none⟩) 2 2, .slice (some ⟨w1.heap.size + 1 + 1 + 1 + 1, 0, none⟩) 1 1, .bool false] 31)).alloc (.cells #[.string ⟨#[112]⟩, .int .i64 0, .int .i64 2, .int .i64 3, .slice (some ⟨w1.heap.size, 0, none⟩) 1 1, .slice (some ⟨w1.heap.size + 1, 0, none⟩) 1 1, .bool true] 28)).heap.size = w1.heap.size + 7 := by simp
  generalize (((((((w1.alloc (.cells #[.string ⟨#[98, 105, 103]⟩] 9)).alloc (.cells #[.string ⟨#[206, 179]⟩] 9)).alloc (.cells #[.string ⟨#[112]⟩, .int .i64 0, .int .i64 2, .int .i64 3, .slice (some ⟨w1.heap.size, 0, none⟩) 1 1, .slice (some ⟨w1.heap.size + 1, 0, none⟩) 1 1, .bool false] 28)).alloc (.cells #[.string ⟨#[98, 105, 103]⟩, .string ⟨#[115, 115, 100]⟩] 9)).alloc (.cells #[.string ⟨#[206, 179]⟩] 9)).alloc (.cells #[.string ⟨#[110]⟩, .int .i64 5, .int .i64 5, .slice (some ⟨w1.heap.size + 1 + 1 + 1, 0, none⟩) 2 2, .slice (some ⟨w1.heap.size + 1 + 1 + 1 + 1, 0, none⟩) 1 1, .bool false] 31)).alloc (.cells #[.string ⟨#[112]⟩, .int .i64 0, .int .i64 2, .int .i64 3, .slice (some ⟨w1.heap.size, 0, none⟩) 1 1, .slice (some ⟨w1.heap.size + 1, 0, none⟩) 1 1, .bool true] 28)) = W5 at *
  obtain ⟨S1, hS1⟩ : ∃ x, w1.heap.size = x := ⟨_, rfl⟩
  simp only [hS1] at x0 x1 x2 x3 x4 x5 x6 hsz5 ⊢
  obtain ⟨S2, hS2⟩ : ∃ x, S1 + 1 = x := ⟨_, rfl⟩
  simp only [hS2] at x0 x1 x2 x3 x4 x5 x6 hsz5 ⊢
  obtain ⟨A, hA⟩ : ∃ x, S2 + 1 = x := ⟨_, rfl⟩
  simp only [hA] at x0 x1 x2 x3 x4 x5 x6 hsz5 ⊢
  obtain ⟨S3, hS3⟩ : ∃ x, A + 1 = x := ⟨_, rfl⟩
  simp only [hS3] at x0 x1 x2 x3 x4 x5 x6 hsz5 ⊢
  obtain ⟨S4, hS4⟩ : ∃ x, S3 + 1 = x := ⟨_, rfl⟩
  simp only [hS4] at x0 x1 x2 x3 x4 x5 x6 hsz5 ⊢
  obtain ⟨C, hC⟩ : ∃ x, S4 + 1 = x := ⟨_, rfl⟩
  simp only [hC] at x0 x1 x2 x3 x4 x5 x6 hsz5 ⊢
  obtain ⟨D, hD⟩ : ∃ x, C + 1 = x := ⟨_, rfl⟩
  simp only [hD] at x0 x1 x2 x3 x4 x5 x6 hsz5 ⊢
  have lD : A + 4 < W5.heap.size ∧ A + 4 = D ∧ A + 3 = C ∧ A + 2 = S4 ∧ A + 1 = S3 ∧ S1 + 1 = S2 ∧ S2 + 1 = A := by omega
  have hl1 : C < W5.heap.size := by omega
  have hl2 : ∀ k, C < W5.heap.size + k := fun k => by omega
  have hl0 : w.heap.size ≤ W5.heap.size := hW5.size
  clear hS1 hS2 hA hS3 hS4 hC hD hsz5 hW1
  obtain ⟨nc0, nc1, nc2, nc3, nc4, nc5⟩ := x5.cells6
  go_cut [6, 7, 8] (fun s6 s7 s8 wx => ∃ X Y Z, s6 = .pointer (some ⟨X, 0, none⟩) ∧ s7 = .pointer (some ⟨Y, 0, none⟩) ∧ s8 = .pointer (some ⟨Z, 0, none⟩) ∧ Box wx X #[.string ⟨#[110]⟩, .int .i64 5, .int .i64 5, .slice (some ⟨S3, 0, none⟩) 2 2, .slice (some ⟨S4, 0, none⟩) 1 1, .bool false] 31 ∧ Box wx Y #[.string ⟨#[110]⟩, .int .i64 5, .int .i64 5, .slice (some ⟨S3, 0, none⟩) 2 2, .slice (some ⟨S4, 0, none⟩) 1 1, .bool false] 31 ∧ Box wx Z #[.string ⟨#[110]⟩, .int .i64 5, .int .i64 5, .slice (some ⟨S3, 0, none⟩) 2 2, .slice (some ⟨S4, 0, none⟩) 1 1, .bool false] 31 ∧ (X ≠ Y ∧ X ≠ Z ∧ Y ≠ Z) ∧ (W5.heap.size ≤ X ∧ W5.heap.size ≤ Y ∧ W5.heap.size ≤ Z) ∧ Below W5.heap.size W5 wx)
  case first =>
    go_region
    all_goals
      go_wp2
      go_meet
      case rel =>
        refine ⟨_, _, _, rfl, rfl, rfl, Box.drew ?_, Box.drew ?_, Box.drew ?_, by omega, by omega, Below.drew (up (up (up (Below.refl _ _) _) _) _)⟩
        all_goals first | exact ((Box.new W5 _ _ rfl).up _).up _ | (refine Box.up (Box.new _ _ _ ?_) _; simp; done) | (refine Box.new _ _ _ ?_; simp; done)
  case rest =>
    obtain ⟨X, Y, Z, rfl, rfl, rfl, hX, hY, hZ, ⟨nXY, nXZ, nYZ⟩, ⟨lX, lY, lZ⟩, hwc⟩ := hcut
    have x0 := x0.later hwc
    have x1 := x1.later hwc
    have x2 := x2.later hwc
    have x3 := x3.later hwc
    have x4 := x4.later hwc
    have x5 := x5.later hwc
    have x6 := x6.later hwc
    have hW6 := fin hwc hW5
    have nYX := Ne.symm nXY
    have nZX := Ne.symm nXZ
    have nZY := Ne.symm nYZ
    clear hwc nc0 nc1 nc2 nc3 nc4 nc5 hl1 hl2
    obtain ⟨xc0, xc1, xc2, xc3, xc4, xc5⟩ := hX.cells6
    obtain ⟨yc0, yc1, yc2, yc3, yc4, yc5⟩ := hY.cells6
    obtain ⟨zc0, zc1, zc2, zc3, zc4, zc5⟩ := hZ.cells6
    have fx3 := hX.frozen 3
    have fx5 := hX.frozen 5
    have fy3 := hY.frozen 3
    have fz4 := hZ.frozen 4
    have kX := hX.lt
    have kY := hY.lt
    have kZ := hZ.lt
    have jX : ∀ k, X < wc.heap.size + k := fun k => by omega
    have jY : ∀ k, Y < wc.heap.size + k := fun k => by omega
    have jZ : ∀ k, Z < wc.heap.size + k := fun k => by omega
    go_upto_region 13 with fail
    have nS1X : S1 ≠ X := by omega
    have nS1Y : S1 ≠ Y := by omega
    have nS1Z : S1 ≠ Z := by omega
    have y0 := ((x0.other nS1X 5 (.bool true)).other nS1X 3 (.slice none 0 0)).other nS1Y 3 (.slice (some ⟨wc.heap.size, 0, none⟩) 1 1) |>.other nS1Z 4 (.slice (some ⟨wc.heap.size + 1, 0, none⟩) 2 2)
    have nS2X : S2 ≠ X := by omega
    have nS2Y : S2 ≠ Y := by omega
    have nS2Z : S2 ≠ Z := by omega
    have y1 := ((x1.other nS2X 5 (.bool true)).other nS2X 3 (.slice none 0 0)).other nS2Y 3 (.slice (some ⟨wc.heap.size, 0, none⟩) 1 1) |>.other nS2Z 4 (.slice (some ⟨wc.heap.size + 1, 0, none⟩) 2 2)
    have nAX : A ≠ X := by omega
    have nAY : A ≠ Y := by omega
    have nAZ : A ≠ Z := by omega
    have y2 := ((x2.other nAX 5 (.bool true)).other nAX 3 (.slice none 0 0)).other nAY 3 (.slice (some ⟨wc.heap.size, 0, none⟩) 1 1) |>.other nAZ 4 (.slice (some ⟨wc.heap.size + 1, 0, none⟩) 2 2)
    have nS3X : S3 ≠ X := by omega
    have nS3Y : S3 ≠ Y := by omega
    have nS3Z : S3 ≠ Z := by omega
    have y3 := ((x3.other nS3X 5 (.bool true)).other nS3X 3 (.slice none 0 0)).other nS3Y 3 (.slice (some ⟨wc.heap.size, 0, none⟩) 1 1) |>.other nS3Z 4 (.slice (some ⟨wc.heap.size + 1, 0, none⟩) 2 2)
    have nS4X : S4 ≠ X := by omega
    have nS4Y : S4 ≠ Y := by omega
    have nS4Z : S4 ≠ Z := by omega
    have y4 := ((x4.other nS4X 5 (.bool true)).other nS4X 3 (.slice none 0 0)).other nS4Y 3 (.slice (some ⟨wc.heap.size, 0, none⟩) 1 1) |>.other nS4Z 4 (.slice (some ⟨wc.heap.size + 1, 0, none⟩) 2 2)
    have nCX : C ≠ X := by omega
    have nCY : C ≠ Y := by omega
    have nCZ : C ≠ Z := by omega
    have y5 := ((x5.other nCX 5 (.bool true)).other nCX 3 (.slice none 0 0)).other nCY 3 (.slice (some ⟨wc.heap.size, 0, none⟩) 1 1) |>.other nCZ 4 (.slice (some ⟨wc.heap.size + 1, 0, none⟩) 2 2)
    have nDX : D ≠ X := by omega
    have nDY : D ≠ Y := by omega
    have nDZ : D ≠ Z := by omega
    have y6 := ((x6.other nDX 5 (.bool true)).other nDX 3 (.slice none 0 0)).other nDY 3 (.slice (some ⟨wc.heap.size, 0, none⟩) 1 1) |>.other nDZ 4 (.slice (some ⟨wc.heap.size + 1, 0, none⟩) 2 2)
    have hX7 : Box _ X #[.string ⟨#[110]⟩, .int .i64 5, .int .i64 5, .slice none 0 0, .slice (some ⟨S4, 0, none⟩) 1 1, .bool true] 31 := (((hX.set 5 (.bool true)).set 3 (.slice none 0 0)).other nXY 3 (.slice (some ⟨wc.heap.size, 0, none⟩) 1 1)).other nXZ 4 (.slice (some ⟨wc.heap.size + 1, 0, none⟩) 2 2)
    have hY7 : Box _ Y #[.string ⟨#[110]⟩, .int .i64 5, .int .i64 5, .slice (some ⟨wc.heap.size, 0, none⟩) 1 1, .slice (some ⟨S4, 0, none⟩) 1 1, .bool false] 31 := (((hY.other nYX 5 (.bool true)).other nYX 3 (.slice none 0 0)).set 3 (.slice (some ⟨wc.heap.size, 0, none⟩) 1 1)).other nYZ 4 (.slice (some ⟨wc.heap.size + 1, 0, none⟩) 2 2)
    have hZ7 : Box _ Z #[.string ⟨#[110]⟩, .int .i64 5, .int .i64 5, .slice (some ⟨S3, 0, none⟩) 2 2, .slice (some ⟨wc.heap.size + 1, 0, none⟩) 2 2, .bool false] 31 := (((hZ.other nZX 5 (.bool true)).other nZX 3 (.slice none 0 0)).other nZY 3 (.slice (some ⟨wc.heap.size, 0, none⟩) 1 1)).set 4 (.slice (some ⟨wc.heap.size + 1, 0, none⟩) 2 2)
    have b7 : Below w.heap.size w ((((wc.setCell ⟨X, 5, none⟩ (.bool true)).setCell ⟨X, 3, none⟩ (.slice none 0 0)).setCell ⟨Y, 3, none⟩ (.slice (some ⟨wc.heap.size, 0, none⟩) 1 1)).setCell ⟨Z, 4, none⟩ (.slice (some ⟨wc.heap.size + 1, 0, none⟩) 2 2)) := (((hW6.setCell (p := ⟨X, 5, none⟩) (by simp; omega) _).setCell (p := ⟨X, 3, none⟩) (by simp; omega) _).setCell (p := ⟨Y, 3, none⟩) (by simp; omega) _).setCell (p := ⟨Z, 4, none⟩) (by simp; omega) _
    have hsz7 : ((((wc.setCell ⟨X, 5, none⟩ (.bool true)).setCell ⟨X, 3, none⟩ (.slice none 0 0)).setCell ⟨Y, 3, none⟩ (.slice (some ⟨wc.heap.size, 0, none⟩) 1 1)).setCell ⟨Z, 4, none⟩ (.slice (some ⟨wc.heap.size + 1, 0, none⟩) 2 2)).heap.size = wc.heap.size := by simp
    have h78 : Below ((((wc.setCell ⟨X, 5, none⟩ (.bool true)).setCell ⟨X, 3, none⟩ (.slice none 0 0)).setCell ⟨Y, 3, none⟩ (.slice (some ⟨wc.heap.size, 0, none⟩) 1 1)).setCell ⟨Z, 4, none⟩ (.slice (some ⟨wc.heap.size + 1, 0, none⟩) 2 2)).heap.size ((((wc.setCell ⟨X, 5, none⟩ (.bool true)).setCell ⟨X, 3, none⟩ (.slice none 0 0)).setCell ⟨Y, 3, none⟩ (.slice (some ⟨wc.heap.size, 0, none⟩) 1 1)).setCell ⟨Z, 4, none⟩ (.slice (some ⟨wc.heap.size + 1, 0, none⟩) 2 2)) ((((((((wc.setCell ⟨X, 5, none⟩ (.bool true)).setCell ⟨X, 3, none⟩ (.slice none 0 0)).setCell ⟨Y, 3, none⟩ (.slice (some ⟨wc.heap.size, 0, none⟩) 1 1)).setCell ⟨Z, 4, none⟩ (.slice (some ⟨wc.heap.size + 1, 0, none⟩) 2 2)).alloc (.cells #[.string ⟨#[115, 115, 100]⟩] 9)).alloc (.cells #[.string ⟨#[119, 101, 115, 116]⟩, .string ⟨#[206, 179]⟩] 9)).alloc (.cells #[.string ⟨#[113]⟩, .string ⟨#[110]⟩, .int .i64 0, .int .i64 0, .bool false] 41)).alloc (.cells #[.string ⟨#[113]⟩, .string ⟨#[110]⟩, .int .i64 0, .int .i64 0, .bool false, .string ⟨#[114]⟩, .string ⟨#[110]⟩, .int .i64 0, .int .i64 0, .bool true] 41)) := up (up (up (up (Below.refl _ _) _) _) _) _
    have hW8 : Below w.heap.size w ((((((((wc.setCell ⟨X, 5, none⟩ (.bool true)).setCell ⟨X, 3, none⟩ (.slice none 0 0)).setCell ⟨Y, 3, none⟩ (.slice (some ⟨wc.heap.size, 0, none⟩) 1 1)).setCell ⟨Z, 4, none⟩ (.slice (some ⟨wc.heap.size + 1, 0, none⟩) 2 2)).alloc (.cells #[.string ⟨#[115, 115, 100]⟩] 9)).alloc (.cells #[.string ⟨#[119, 101, 115, 116]⟩, .string ⟨#[206, 179]⟩] 9)).alloc (.cells #[.string ⟨#[113]⟩, .string ⟨#[110]⟩, .int .i64 0, .int .i64 0, .bool false] 41)).alloc (.cells #[.string ⟨#[113]⟩, .string ⟨#[110]⟩, .int .i64 0, .int .i64 0, .bool false, .string ⟨#[114]⟩, .string ⟨#[110]⟩, .int .i64 0, .int .i64 0, .bool true] 41)) := fin h78 b7
    have o1 : Box ((((((((wc.setCell ⟨X, 5, none⟩ (.bool true)).setCell ⟨X, 3, none⟩ (.slice none 0 0)).setCell ⟨Y, 3, none⟩ (.slice (some ⟨wc.heap.size, 0, none⟩) 1 1)).setCell ⟨Z, 4, none⟩ (.slice (some ⟨wc.heap.size + 1, 0, none⟩) 2 2)).alloc (.cells #[.string ⟨#[115, 115, 100]⟩] 9)).alloc (.cells #[.string ⟨#[119, 101, 115, 116]⟩, .string ⟨#[206, 179]⟩] 9)).alloc (.cells #[.string ⟨#[113]⟩, .string ⟨#[110]⟩, .int .i64 0, .int .i64 0, .bool false] 41)).alloc (.cells #[.string ⟨#[113]⟩, .string ⟨#[110]⟩, .int .i64 0, .int .i64 0, .bool false, .string ⟨#[114]⟩, .string ⟨#[110]⟩, .int .i64 0, .int .i64 0, .bool true] 41)) wc.heap.size #[.string ⟨#[115, 115, 100]⟩] 9 := (((Box.new _ _ _ hsz7).up _).up _).up _
    have o2 : Box ((((((((wc.setCell ⟨X, 5, none⟩ (.bool true)).setCell ⟨X, 3, none⟩ (.slice none 0 0)).setCell ⟨Y, 3, none⟩ (.slice (some ⟨wc.heap.size, 0, none⟩) 1 1)).setCell ⟨Z, 4, none⟩ (.slice (some ⟨wc.heap.size + 1, 0, none⟩) 2 2)).alloc (.cells #[.string ⟨#[115, 115, 100]⟩] 9)).alloc (.cells #[.string ⟨#[119, 101, 115, 116]⟩, .string ⟨#[206, 179]⟩] 9)).alloc (.cells #[.string ⟨#[113]⟩, .string ⟨#[110]⟩, .int .i64 0, .int .i64 0, .bool false] 41)).alloc (.cells #[.string ⟨#[113]⟩, .string ⟨#[110]⟩, .int .i64 0, .int .i64 0, .bool false, .string ⟨#[114]⟩, .string ⟨#[110]⟩, .int .i64 0, .int .i64 0, .bool true] 41)) (wc.heap.size + 1) #[.string ⟨#[119, 101, 115, 116]⟩, .string ⟨#[206, 179]⟩] 9 := ((Box.new _ _ _ (by simp)).up _).up _
    have o3 : Box ((((((((wc.setCell ⟨X, 5, none⟩ (.bool true)).setCell ⟨X, 3, none⟩ (.slice none 0 0)).setCell ⟨Y, 3, none⟩ (.slice (some ⟨wc.heap.size, 0, none⟩) 1 1)).setCell ⟨Z, 4, none⟩ (.slice (some ⟨wc.heap.size + 1, 0, none⟩) 2 2)).alloc (.cells #[.string ⟨#[115, 115, 100]⟩] 9)).alloc (.cells #[.string ⟨#[119, 101, 115, 116]⟩, .string ⟨#[206, 179]⟩] 9)).alloc (.cells #[.string ⟨#[113]⟩, .string ⟨#[110]⟩, .int .i64 0, .int .i64 0, .bool false] 41)).alloc (.cells #[.string ⟨#[113]⟩, .string ⟨#[110]⟩, .int .i64 0, .int .i64 0, .bool false, .string ⟨#[114]⟩, .string ⟨#[110]⟩, .int .i64 0, .int .i64 0, .bool true] 41)) (wc.heap.size + 1 + 1) #[.string ⟨#[113]⟩, .string ⟨#[110]⟩, .int .i64 0, .int .i64 0, .bool false] 41 := (Box.new _ _ _ (by simp)).up _
    have o4 : Box ((((((((wc.setCell ⟨X, 5, none⟩ (.bool true)).setCell ⟨X, 3, none⟩ (.slice none 0 0)).setCell ⟨Y, 3, none⟩ (.slice (some ⟨wc.heap.size, 0, none⟩) 1 1)).setCell ⟨Z, 4, none⟩ (.slice (some ⟨wc.heap.size + 1, 0, none⟩) 2 2)).alloc (.cells #[.string ⟨#[115, 115, 100]⟩] 9)).alloc (.cells #[.string ⟨#[119, 101, 115, 116]⟩, .string ⟨#[206, 179]⟩] 9)).alloc (.cells #[.string ⟨#[113]⟩, .string ⟨#[110]⟩, .int .i64 0, .int .i64 0, .bool false] 41)).alloc (.cells #[.string ⟨#[113]⟩, .string ⟨#[110]⟩, .int .i64 0, .int .i64 0, .bool false, .string ⟨#[114]⟩, .string ⟨#[110]⟩, .int .i64 0, .int .i64 0, .bool true] 41)) (wc.heap.size + 1 + 1 + 1) #[.string ⟨#[113]⟩, .string ⟨#[110]⟩, .int .i64 0, .int .i64 0, .bool false, .string ⟨#[114]⟩, .string ⟨#[110]⟩, .int .i64 0, .int .i64 0, .bool true] 41 := Box.new _ _ _ (by simp)
    have z0 := y0.later h78
    have z1 := y1.later h78
    have z2 := y2.later h78
    have z3 := y3.later h78
    have z4 := y4.later h78
    have z5 := y5.later h78
    have z6 := y6.later h78
    have hX8 := hX7.later h78
    have hY8 := hY7.later h78
    have hZ8 := hZ7.later h78
    clear x0 y0 x1 y1 x2 y2 x3 y3 x4 y4 x5 y5 x6 y6 hX hY hZ hX7 hY7 hZ7 b7 hsz7 h78 xc0 xc1 xc2 xc3 xc4 xc5 yc0 yc1 yc2 yc3 yc4 yc5 zc0 zc1 zc2 zc3 zc4 zc5 fx3 fx5 fy3 fz4 kX kY kZ jX jY jZ hW5 hW6
    generalize (((((((wc.setCell ⟨X, 5, none⟩ (.bool true)).setCell ⟨X, 3, none⟩ (.slice none 0 0)).setCell ⟨Y, 3, none⟩ (.slice (some ⟨wc.heap.size, 0, none⟩) 1 1)).setCell ⟨Z, 4, none⟩ (.slice (some ⟨wc.heap.size + 1, 0, none⟩) 2 2)).alloc (.cells #[.string ⟨#[115, 115, 100]⟩] 9)).alloc (.cells #[.string ⟨#[119, 101, 115, 116]⟩, .string ⟨#[206, 179]⟩] 9)).alloc (.cells #[.string ⟨#[113]⟩, .string ⟨#[110]⟩, .int .i64 0, .int .i64 0, .bool false] 41)).alloc (.cells #[.string ⟨#[113]⟩, .string ⟨#[110]⟩, .int .i64 0, .int .i64 0, .bool false, .string ⟨#[114]⟩, .string ⟨#[110]⟩, .int .i64 0, .int .i64 0, .bool true] 41) = W8 at *
    obtain ⟨S5, hS5⟩ : ∃ x, wc.heap.size = x := ⟨_, rfl⟩
    simp only [hS5] at o1 o2 o3 o4 hY8 hZ8 ⊢
    obtain ⟨S6, hS6⟩ : ∃ x, S5 + 1 = x := ⟨_, rfl⟩
    simp only [hS6] at o1 o2 o3 o4 hY8 hZ8 ⊢
    obtain ⟨S7, hS7⟩ : ∃ x, S6 + 1 = x := ⟨_, rfl⟩
    simp only [hS7] at o1 o2 o3 o4 hY8 hZ8 ⊢
    obtain ⟨S8, hS8⟩ : ∃ x, S7 + 1 = x := ⟨_, rfl⟩
    simp only [hS8] at o1 o2 o3 o4 hY8 hZ8 ⊢
    clear hS5 hS6 hS7 hS8
    have k0 : ∀ W, Below W8.heap.size W8 W → Calls Try.prog 14 #[.agg #[.string ⟨#[112]⟩, .int .i64 0, .int .i64 2, .int .i64 3, .slice (some ⟨S1, 0, none⟩) 1 1, .slice (some ⟨S2, 0, none⟩) 1 1, .bool false], .agg #[.string ⟨#[110]⟩, .int .i64 5, .int .i64 5, .slice (some ⟨S3, 0, none⟩) 2 2, .slice (some ⟨S4, 0, none⟩) 1 1, .bool false], .agg #[.int .i64 3, .int .i64 2], .slice none 0 0] W fun e w' => e = .returned (.int .i64 0) ∧ Below W.heap.size W w' := fun W hb => why_any ⟨#[112]⟩ 0 2 3 (some ⟨S1, 0, none⟩) 1 1 (some ⟨S2, 0, none⟩) 1 1 false ⟨#[110]⟩ 5 5 (some ⟨S3, 0, none⟩) 2 2 (some ⟨S4, 0, none⟩) 1 1 false 3 2 none 0 0 [⟨#[98, 105, 103]⟩] [⟨#[206, 179]⟩] [⟨#[98, 105, 103]⟩, ⟨#[115, 115, 100]⟩] [⟨#[206, 179]⟩] [] true true true W rfl rfl rfl rfl rfl (strs_box (ss := [⟨#[98, 105, 103]⟩]) (z0.later hb) (by decide)) (strs_box (ss := [⟨#[206, 179]⟩]) (z1.later hb) (by decide)) (strs_box (ss := [⟨#[98, 105, 103]⟩, ⟨#[115, 115, 100]⟩]) (z3.later hb) (by decide)) (strs_box (ss := [⟨#[206, 179]⟩]) (z4.later hb) (by decide)) (places_nil W) (one_short (by decide)) (one_short (by decide)) (two_short (by decide) (by decide)) (one_short (by decide)) (by decide) (by decide) (by decide +kernel) (by decide +kernel) (by decide)
    have k1 : ∀ W, Below W8.heap.size W8 W → Calls Try.prog 14 #[.agg #[.string ⟨#[112]⟩, .int .i64 0, .int .i64 2, .int .i64 3, .slice (some ⟨S1, 0, none⟩) 1 1, .slice (some ⟨S2, 0, none⟩) 1 1, .bool false], .agg #[.string ⟨#[110]⟩, .int .i64 5, .int .i64 5, .slice none 0 0, .slice (some ⟨S4, 0, none⟩) 1 1, .bool true], .agg #[.int .i64 9, .int .i64 0], .slice (some ⟨S8, 0, none⟩) 2 2] W fun e w' => e = .returned (.int .i64 1) ∧ Below W.heap.size W w' := fun W hb => why_any ⟨#[112]⟩ 0 2 3 (some ⟨S1, 0, none⟩) 1 1 (some ⟨S2, 0, none⟩) 1 1 false ⟨#[110]⟩ 5 5 none 0 0 (some ⟨S4, 0, none⟩) 1 1 true 9 0 (some ⟨S8, 0, none⟩) 2 2 [⟨#[98, 105, 103]⟩] [⟨#[206, 179]⟩] [] [⟨#[206, 179]⟩] [⟨⟨#[113]⟩, ⟨#[110]⟩, 0, 0, false⟩, ⟨⟨#[114]⟩, ⟨#[110]⟩, 0, 0, true⟩] false true false W rfl rfl rfl rfl rfl (strs_box (ss := [⟨#[98, 105, 103]⟩]) (z0.later hb) (by decide)) (strs_box (ss := [⟨#[206, 179]⟩]) (z1.later hb) (by decide)) (strs_nil W) (strs_box (ss := [⟨#[206, 179]⟩]) (z4.later hb) (by decide)) (place_two (o4.later hb)) (one_short (by decide)) (one_short (by decide)) nil_short (one_short (by decide)) (by decide) (by decide) (by decide +kernel) (by decide +kernel) (by decide)
    have k2 : ∀ W, Below W8.heap.size W8 W → Calls Try.prog 14 #[.agg #[.string ⟨#[112]⟩, .int .i64 0, .int .i64 2, .int .i64 3, .slice (some ⟨S1, 0, none⟩) 1 1, .slice (some ⟨S2, 0, none⟩) 1 1, .bool false], .agg #[.string ⟨#[110]⟩, .int .i64 5, .int .i64 5, .slice (some ⟨S5, 0, none⟩) 1 1, .slice (some ⟨S4, 0, none⟩) 1 1, .bool false], .agg #[.int .i64 9, .int .i64 0], .slice (some ⟨S8, 0, none⟩) 2 2] W fun e w' => e = .returned (.int .i64 2) ∧ Below W.heap.size W w' := fun W hb => why_any ⟨#[112]⟩ 0 2 3 (some ⟨S1, 0, none⟩) 1 1 (some ⟨S2, 0, none⟩) 1 1 false ⟨#[110]⟩ 5 5 (some ⟨S5, 0, none⟩) 1 1 (some ⟨S4, 0, none⟩) 1 1 false 9 0 (some ⟨S8, 0, none⟩) 2 2 [⟨#[98, 105, 103]⟩] [⟨#[206, 179]⟩] [⟨#[115, 115, 100]⟩] [⟨#[206, 179]⟩] [⟨⟨#[113]⟩, ⟨#[110]⟩, 0, 0, false⟩, ⟨⟨#[114]⟩, ⟨#[110]⟩, 0, 0, true⟩] false true false W rfl rfl rfl rfl rfl (strs_box (ss := [⟨#[98, 105, 103]⟩]) (z0.later hb) (by decide)) (strs_box (ss := [⟨#[206, 179]⟩]) (z1.later hb) (by decide)) (strs_box (ss := [⟨#[115, 115, 100]⟩]) (o1.later hb) (by decide)) (strs_box (ss := [⟨#[206, 179]⟩]) (z4.later hb) (by decide)) (place_two (o4.later hb)) (one_short (by decide)) (one_short (by decide)) (one_short (by decide)) (one_short (by decide)) (by decide) (by decide) (by decide +kernel) (by decide +kernel) (by decide)
    have k3 : ∀ W, Below W8.heap.size W8 W → Calls Try.prog 14 #[.agg #[.string ⟨#[112]⟩, .int .i64 0, .int .i64 2, .int .i64 3, .slice (some ⟨S1, 0, none⟩) 1 1, .slice (some ⟨S2, 0, none⟩) 1 1, .bool false], .agg #[.string ⟨#[110]⟩, .int .i64 5, .int .i64 5, .slice (some ⟨S3, 0, none⟩) 2 2, .slice (some ⟨S6, 0, none⟩) 2 2, .bool false], .agg #[.int .i64 9, .int .i64 0], .slice (some ⟨S8, 0, none⟩) 2 2] W fun e w' => e = .returned (.int .i64 3) ∧ Below W.heap.size W w' := fun W hb => why_any ⟨#[112]⟩ 0 2 3 (some ⟨S1, 0, none⟩) 1 1 (some ⟨S2, 0, none⟩) 1 1 false ⟨#[110]⟩ 5 5 (some ⟨S3, 0, none⟩) 2 2 (some ⟨S6, 0, none⟩) 2 2 false 9 0 (some ⟨S8, 0, none⟩) 2 2 [⟨#[98, 105, 103]⟩] [⟨#[206, 179]⟩] [⟨#[98, 105, 103]⟩, ⟨#[115, 115, 100]⟩] [⟨#[119, 101, 115, 116]⟩, ⟨#[206, 179]⟩] [⟨⟨#[113]⟩, ⟨#[110]⟩, 0, 0, false⟩, ⟨⟨#[114]⟩, ⟨#[110]⟩, 0, 0, true⟩] true false false W rfl rfl rfl rfl rfl (strs_box (ss := [⟨#[98, 105, 103]⟩]) (z0.later hb) (by decide)) (strs_box (ss := [⟨#[206, 179]⟩]) (z1.later hb) (by decide)) (strs_box (ss := [⟨#[98, 105, 103]⟩, ⟨#[115, 115, 100]⟩]) (z3.later hb) (by decide)) (strs_box (ss := [⟨#[119, 101, 115, 116]⟩, ⟨#[206, 179]⟩]) (o2.later hb) (by decide)) (place_two (o4.later hb)) (one_short (by decide)) (one_short (by decide)) (two_short (by decide) (by decide)) (two_short (by decide) (by decide)) (by decide) (by decide) (by decide +kernel) (by decide +kernel) (by decide)
    have k4 : ∀ W, Below W8.heap.size W8 W → Calls Try.prog 14 #[.agg #[.string ⟨#[112]⟩, .int .i64 0, .int .i64 2, .int .i64 3, .slice (some ⟨S1, 0, none⟩) 1 1, .slice (some ⟨S2, 0, none⟩) 1 1, .bool false], .agg #[.string ⟨#[110]⟩, .int .i64 5, .int .i64 5, .slice (some ⟨S3, 0, none⟩) 2 2, .slice (some ⟨S4, 0, none⟩) 1 1, .bool false], .agg #[.int .i64 4, .int .i64 0], .slice (some ⟨S8, 0, none⟩) 2 2] W fun e w' => e = .returned (.int .i64 4) ∧ Below W.heap.size W w' := fun W hb => why_any ⟨#[112]⟩ 0 2 3 (some ⟨S1, 0, none⟩) 1 1 (some ⟨S2, 0, none⟩) 1 1 false ⟨#[110]⟩ 5 5 (some ⟨S3, 0, none⟩) 2 2 (some ⟨S4, 0, none⟩) 1 1 false 4 0 (some ⟨S8, 0, none⟩) 2 2 [⟨#[98, 105, 103]⟩] [⟨#[206, 179]⟩] [⟨#[98, 105, 103]⟩, ⟨#[115, 115, 100]⟩] [⟨#[206, 179]⟩] [⟨⟨#[113]⟩, ⟨#[110]⟩, 0, 0, false⟩, ⟨⟨#[114]⟩, ⟨#[110]⟩, 0, 0, true⟩] true true false W rfl rfl rfl rfl rfl (strs_box (ss := [⟨#[98, 105, 103]⟩]) (z0.later hb) (by decide)) (strs_box (ss := [⟨#[206, 179]⟩]) (z1.later hb) (by decide)) (strs_box (ss := [⟨#[98, 105, 103]⟩, ⟨#[115, 115, 100]⟩]) (z3.later hb) (by decide)) (strs_box (ss := [⟨#[206, 179]⟩]) (z4.later hb) (by decide)) (place_two (o4.later hb)) (one_short (by decide)) (one_short (by decide)) (two_short (by decide) (by decide)) (one_short (by decide)) (by decide) (by decide) (by decide +kernel) (by decide +kernel) (by decide)
    have k5 : ∀ W, Below W8.heap.size W8 W → Calls Try.prog 14 #[.agg #[.string ⟨#[112]⟩, .int .i64 0, .int .i64 2, .int .i64 3, .slice (some ⟨S1, 0, none⟩) 1 1, .slice (some ⟨S2, 0, none⟩) 1 1, .bool false], .agg #[.string ⟨#[110]⟩, .int .i64 5, .int .i64 5, .slice (some ⟨S3, 0, none⟩) 2 2, .slice (some ⟨S4, 0, none⟩) 1 1, .bool false], .agg #[.int .i64 0, .int .i64 3], .slice (some ⟨S8, 0, none⟩) 2 2] W fun e w' => e = .returned (.int .i64 4) ∧ Below W.heap.size W w' := fun W hb => why_any ⟨#[112]⟩ 0 2 3 (some ⟨S1, 0, none⟩) 1 1 (some ⟨S2, 0, none⟩) 1 1 false ⟨#[110]⟩ 5 5 (some ⟨S3, 0, none⟩) 2 2 (some ⟨S4, 0, none⟩) 1 1 false 0 3 (some ⟨S8, 0, none⟩) 2 2 [⟨#[98, 105, 103]⟩] [⟨#[206, 179]⟩] [⟨#[98, 105, 103]⟩, ⟨#[115, 115, 100]⟩] [⟨#[206, 179]⟩] [⟨⟨#[113]⟩, ⟨#[110]⟩, 0, 0, false⟩, ⟨⟨#[114]⟩, ⟨#[110]⟩, 0, 0, true⟩] true true false W rfl rfl rfl rfl rfl (strs_box (ss := [⟨#[98, 105, 103]⟩]) (z0.later hb) (by decide)) (strs_box (ss := [⟨#[206, 179]⟩]) (z1.later hb) (by decide)) (strs_box (ss := [⟨#[98, 105, 103]⟩, ⟨#[115, 115, 100]⟩]) (z3.later hb) (by decide)) (strs_box (ss := [⟨#[206, 179]⟩]) (z4.later hb) (by decide)) (place_two (o4.later hb)) (one_short (by decide)) (one_short (by decide)) (two_short (by decide) (by decide)) (one_short (by decide)) (by decide) (by decide) (by decide +kernel) (by decide +kernel) (by decide)
    have k6 : ∀ W, Below W8.heap.size W8 W → Calls Try.prog 14 #[.agg #[.string ⟨#[112]⟩, .int .i64 0, .int .i64 2, .int .i64 3, .slice (some ⟨S1, 0, none⟩) 1 1, .slice (some ⟨S2, 0, none⟩) 1 1, .bool true], .agg #[.string ⟨#[110]⟩, .int .i64 5, .int .i64 5, .slice (some ⟨S3, 0, none⟩) 2 2, .slice (some ⟨S4, 0, none⟩) 1 1, .bool false], .agg #[.int .i64 0, .int .i64 0], .slice (some ⟨S7, 0, none⟩) 1 1] W fun e w' => e = .returned (.int .i64 5) ∧ Below W.heap.size W w' := fun W hb => why_any ⟨#[112]⟩ 0 2 3 (some ⟨S1, 0, none⟩) 1 1 (some ⟨S2, 0, none⟩) 1 1 true ⟨#[110]⟩ 5 5 (some ⟨S3, 0, none⟩) 2 2 (some ⟨S4, 0, none⟩) 1 1 false 0 0 (some ⟨S7, 0, none⟩) 1 1 [⟨#[98, 105, 103]⟩] [⟨#[206, 179]⟩] [⟨#[98, 105, 103]⟩, ⟨#[115, 115, 100]⟩] [⟨#[206, 179]⟩] [⟨⟨#[113]⟩, ⟨#[110]⟩, 0, 0, false⟩] true true true W rfl rfl rfl rfl rfl (strs_box (ss := [⟨#[98, 105, 103]⟩]) (z0.later hb) (by decide)) (strs_box (ss := [⟨#[206, 179]⟩]) (z1.later hb) (by decide)) (strs_box (ss := [⟨#[98, 105, 103]⟩, ⟨#[115, 115, 100]⟩]) (z3.later hb) (by decide)) (strs_box (ss := [⟨#[206, 179]⟩]) (z4.later hb) (by decide)) (place_one (o3.later hb)) (one_short (by decide)) (one_short (by decide)) (two_short (by decide) (by decide)) (one_short (by decide)) (by decide) (by decide) (by decide +kernel) (by decide +kernel) (by decide)
    have k7 : ∀ W, Below W8.heap.size W8 W → Calls Try.prog 14 #[.agg #[.string ⟨#[112]⟩, .int .i64 0, .int .i64 2, .int .i64 3, .slice (some ⟨S1, 0, none⟩) 1 1, .slice (some ⟨S2, 0, none⟩) 1 1, .bool true], .agg #[.string ⟨#[110]⟩, .int .i64 5, .int .i64 5, .slice (some ⟨S3, 0, none⟩) 2 2, .slice (some ⟨S4, 0, none⟩) 1 1, .bool false], .agg #[.int .i64 0, .int .i64 0], .slice (some ⟨S8, 0, none⟩) 2 2] W fun e w' => e = .returned (.int .i64 5) ∧ Below W.heap.size W w' := fun W hb => why_any ⟨#[112]⟩ 0 2 3 (some ⟨S1, 0, none⟩) 1 1 (some ⟨S2, 0, none⟩) 1 1 true ⟨#[110]⟩ 5 5 (some ⟨S3, 0, none⟩) 2 2 (some ⟨S4, 0, none⟩) 1 1 false 0 0 (some ⟨S8, 0, none⟩) 2 2 [⟨#[98, 105, 103]⟩] [⟨#[206, 179]⟩] [⟨#[98, 105, 103]⟩, ⟨#[115, 115, 100]⟩] [⟨#[206, 179]⟩] [⟨⟨#[113]⟩, ⟨#[110]⟩, 0, 0, false⟩, ⟨⟨#[114]⟩, ⟨#[110]⟩, 0, 0, true⟩] true true true W rfl rfl rfl rfl rfl (strs_box (ss := [⟨#[98, 105, 103]⟩]) (z0.later hb) (by decide)) (strs_box (ss := [⟨#[206, 179]⟩]) (z1.later hb) (by decide)) (strs_box (ss := [⟨#[98, 105, 103]⟩, ⟨#[115, 115, 100]⟩]) (z3.later hb) (by decide)) (strs_box (ss := [⟨#[206, 179]⟩]) (z4.later hb) (by decide)) (place_two (o4.later hb)) (one_short (by decide)) (one_short (by decide)) (two_short (by decide) (by decide)) (one_short (by decide)) (by decide) (by decide) (by decide +kernel) (by decide +kernel) (by decide)
    have k8 : ∀ W, Below W8.heap.size W8 W → Calls Try.prog 14 #[.agg #[.string ⟨#[112]⟩, .int .i64 0, .int .i64 2, .int .i64 3, .slice (some ⟨S1, 0, none⟩) 1 1, .slice (some ⟨S2, 0, none⟩) 1 1, .bool false], .agg #[.string ⟨#[110]⟩, .int .i64 5, .int .i64 5, .slice (some ⟨S3, 0, none⟩) 2 2, .slice (some ⟨S4, 0, none⟩) 1 1, .bool false], .agg #[.int .i64 0, .int .i64 0], .slice (some ⟨S8, 0, none⟩) 2 2] W fun e w' => e = .returned (.int .i64 6) ∧ Below W.heap.size W w' := fun W hb => why_any ⟨#[112]⟩ 0 2 3 (some ⟨S1, 0, none⟩) 1 1 (some ⟨S2, 0, none⟩) 1 1 false ⟨#[110]⟩ 5 5 (some ⟨S3, 0, none⟩) 2 2 (some ⟨S4, 0, none⟩) 1 1 false 0 0 (some ⟨S8, 0, none⟩) 2 2 [⟨#[98, 105, 103]⟩] [⟨#[206, 179]⟩] [⟨#[98, 105, 103]⟩, ⟨#[115, 115, 100]⟩] [⟨#[206, 179]⟩] [⟨⟨#[113]⟩, ⟨#[110]⟩, 0, 0, false⟩, ⟨⟨#[114]⟩, ⟨#[110]⟩, 0, 0, true⟩] true true true W rfl rfl rfl rfl rfl (strs_box (ss := [⟨#[98, 105, 103]⟩]) (z0.later hb) (by decide)) (strs_box (ss := [⟨#[206, 179]⟩]) (z1.later hb) (by decide)) (strs_box (ss := [⟨#[98, 105, 103]⟩, ⟨#[115, 115, 100]⟩]) (z3.later hb) (by decide)) (strs_box (ss := [⟨#[206, 179]⟩]) (z4.later hb) (by decide)) (place_two (o4.later hb)) (one_short (by decide)) (one_short (by decide)) (two_short (by decide) (by decide)) (one_short (by decide)) (by decide) (by decide) (by decide +kernel) (by decide +kernel) (by decide)
    have k9 : ∀ W, Below W8.heap.size W8 W → Calls Try.prog 14 #[.agg #[.string ⟨#[112]⟩, .int .i64 0, .int .i64 2, .int .i64 3, .slice (some ⟨S1, 0, none⟩) 1 1, .slice (some ⟨S2, 0, none⟩) 1 1, .bool false], .agg #[.string ⟨#[110]⟩, .int .i64 5, .int .i64 5, .slice (some ⟨S3, 0, none⟩) 2 2, .slice (some ⟨S4, 0, none⟩) 1 1, .bool false], .agg #[.int .i64 0, .int .i64 0], .slice (some ⟨S7, 0, none⟩) 1 1] W fun e w' => e = .returned (.int .i64 0) ∧ Below W.heap.size W w' := fun W hb => why_any ⟨#[112]⟩ 0 2 3 (some ⟨S1, 0, none⟩) 1 1 (some ⟨S2, 0, none⟩) 1 1 false ⟨#[110]⟩ 5 5 (some ⟨S3, 0, none⟩) 2 2 (some ⟨S4, 0, none⟩) 1 1 false 0 0 (some ⟨S7, 0, none⟩) 1 1 [⟨#[98, 105, 103]⟩] [⟨#[206, 179]⟩] [⟨#[98, 105, 103]⟩, ⟨#[115, 115, 100]⟩] [⟨#[206, 179]⟩] [⟨⟨#[113]⟩, ⟨#[110]⟩, 0, 0, false⟩] true true true W rfl rfl rfl rfl rfl (strs_box (ss := [⟨#[98, 105, 103]⟩]) (z0.later hb) (by decide)) (strs_box (ss := [⟨#[206, 179]⟩]) (z1.later hb) (by decide)) (strs_box (ss := [⟨#[98, 105, 103]⟩, ⟨#[115, 115, 100]⟩]) (z3.later hb) (by decide)) (strs_box (ss := [⟨#[206, 179]⟩]) (z4.later hb) (by decide)) (place_one (o3.later hb)) (one_short (by decide)) (one_short (by decide)) (two_short (by decide) (by decide)) (one_short (by decide)) (by decide) (by decide) (by decide +kernel) (by decide +kernel) (by decide)
    have k10 : ∀ W, Below W8.heap.size W8 W → Calls Try.prog 14 #[.agg #[.string ⟨#[112]⟩, .int .i64 0, .int .i64 2, .int .i64 3, .slice (some ⟨S1, 0, none⟩) 1 1, .slice (some ⟨S2, 0, none⟩) 1 1, .bool true], .agg #[.string ⟨#[110]⟩, .int .i64 5, .int .i64 5, .slice (some ⟨S3, 0, none⟩) 2 2, .slice (some ⟨S4, 0, none⟩) 1 1, .bool false], .agg #[.int .i64 0, .int .i64 0], .slice none 0 0] W fun e w' => e = .returned (.int .i64 0) ∧ Below W.heap.size W w' := fun W hb => why_any ⟨#[112]⟩ 0 2 3 (some ⟨S1, 0, none⟩) 1 1 (some ⟨S2, 0, none⟩) 1 1 true ⟨#[110]⟩ 5 5 (some ⟨S3, 0, none⟩) 2 2 (some ⟨S4, 0, none⟩) 1 1 false 0 0 none 0 0 [⟨#[98, 105, 103]⟩] [⟨#[206, 179]⟩] [⟨#[98, 105, 103]⟩, ⟨#[115, 115, 100]⟩] [⟨#[206, 179]⟩] [] true true true W rfl rfl rfl rfl rfl (strs_box (ss := [⟨#[98, 105, 103]⟩]) (z0.later hb) (by decide)) (strs_box (ss := [⟨#[206, 179]⟩]) (z1.later hb) (by decide)) (strs_box (ss := [⟨#[98, 105, 103]⟩, ⟨#[115, 115, 100]⟩]) (z3.later hb) (by decide)) (strs_box (ss := [⟨#[206, 179]⟩]) (z4.later hb) (by decide)) (places_nil W) (one_short (by decide)) (one_short (by decide)) (two_short (by decide) (by decide)) (one_short (by decide)) (by decide) (by decide) (by decide +kernel) (by decide +kernel) (by decide)
    have k11 : ∀ W, Below W8.heap.size W8 W → Calls Try.prog 14 #[.agg #[.string ⟨#[112]⟩, .int .i64 0, .int .i64 2, .int .i64 3, .slice (some ⟨S1, 0, none⟩) 1 1, .slice (some ⟨S2, 0, none⟩) 1 1, .bool false], .agg #[.string ⟨#[110]⟩, .int .i64 5, .int .i64 5, .slice (some ⟨S3, 0, none⟩) 2 2, .slice (some ⟨S4, 0, none⟩) 1 1, .bool false], .agg #[.int .i64 9223372036854775807, .int .i64 0], .slice none 0 0] W fun e w' => e = .returned (.int .i64 4) ∧ Below W.heap.size W w' := fun W hb => why_any ⟨#[112]⟩ 0 2 3 (some ⟨S1, 0, none⟩) 1 1 (some ⟨S2, 0, none⟩) 1 1 false ⟨#[110]⟩ 5 5 (some ⟨S3, 0, none⟩) 2 2 (some ⟨S4, 0, none⟩) 1 1 false 9223372036854775807 0 none 0 0 [⟨#[98, 105, 103]⟩] [⟨#[206, 179]⟩] [⟨#[98, 105, 103]⟩, ⟨#[115, 115, 100]⟩] [⟨#[206, 179]⟩] [] true true false W rfl rfl rfl rfl rfl (strs_box (ss := [⟨#[98, 105, 103]⟩]) (z0.later hb) (by decide)) (strs_box (ss := [⟨#[206, 179]⟩]) (z1.later hb) (by decide)) (strs_box (ss := [⟨#[98, 105, 103]⟩, ⟨#[115, 115, 100]⟩]) (z3.later hb) (by decide)) (strs_box (ss := [⟨#[206, 179]⟩]) (z4.later hb) (by decide)) (places_nil W) (one_short (by decide)) (one_short (by decide)) (two_short (by decide) (by decide)) (one_short (by decide)) (by decide) (by decide) (by decide +kernel) (by decide +kernel) (by decide)
    refine wp_region_rely (fun w1 => Below W8.heap.size W8 w1) (fun w1 w2 => Below w1.heap.size w1 w2) (knownF S1 S2 S3 S4 S5 S6 S7 S8) (by kernel_rfl) (by kernel_rfl) (Below.refl _ _).drew ?keep ?step ?rest
    case keep =>
      intro i v w1 w2 hS hF
      unfold knownF at *
      split at hF <;> try exact hF
      · obtain ⟨G, hv, hc⟩ := hF
        exact ⟨G, hv, hc.later hS⟩
      · obtain ⟨G, hv, hc⟩ := hF
        exact ⟨G, hv, hc.later hS⟩
    case step =>
      intro i o d ho hd b w1 hR hold hdep
      have o3 : sl b 3 = .pointer (some ⟨A, 0, none⟩) := hold 3 (by kernel_rfl)
      have o4 : sl b 4 = .pointer (some ⟨C, 0, none⟩) := hold 4 (by kernel_rfl)
      have o5 : sl b 5 = .pointer (some ⟨D, 0, none⟩) := hold 5 (by kernel_rfl)
      have o6 : sl b 6 = .pointer (some ⟨X, 0, none⟩) := hold 6 (by kernel_rfl)
      have o7 : sl b 7 = .pointer (some ⟨Y, 0, none⟩) := hold 7 (by kernel_rfl)
      have o8 : sl b 8 = .pointer (some ⟨Z, 0, none⟩) := hold 8 (by kernel_rfl)
      have o9 : sl b 9 = .slice (some ⟨S7, 0, none⟩) 1 1 := hold 9 (by kernel_rfl)
      have o10 : sl b 10 = .slice (some ⟨S8, 0, none⟩) 2 2 := hold 10 (by kernel_rfl)
      have o0 : sl b 0 = .int .i64 wh := hold 0 (by kernel_rfl)
      have hb0 := Below.refl w1.heap.size w1
      obtain ⟨ac0, ac1, ac2, ac3, ac4, ac5, ac6⟩ := (z2.later hR).cells7
      obtain ⟨dc0, dc1, dc2, dc3, dc4, dc5, dc6⟩ := (z6.later hR).cells7
      obtain ⟨nc0, nc1, nc2, nc3, nc4, nc5⟩ := (z5.later hR).cells6
      obtain ⟨cc0, cc1, cc2, cc3, cc4, cc5⟩ := (hX8.later hR).cells6
      obtain ⟨pc0, pc1, pc2, pc3, pc4, pc5⟩ := (hY8.later hR).cells6
      obtain ⟨hc0, hc1, hc2, hc3, hc4, hc5⟩ := (hZ8.later hR).cells6
      rcases i with _ | _ | _ | _ | _ | _ | _ | _ | _ | _ | _ | _ | _ | _ | _ | _ | _ | _ | _ | _ | _ | _ | _ | _ | _ | _ | _ | _ | _ | _ | _ | _ | _ | _ | _ | _ | _ | _ | _ | _ | _ | _ | _ | _ | _ | _ | _ | _ | _ | _ | _ | _ | _ | _ | _ | _ | _ | _ | _ | i
      all_goals try (cases ho; cases hd)
      · exact ok_val' rfl rfl (want_none rfl b) (by simp [go_sem, o3, ac0, ac1, ac2, ac3, ac4, ac5, ac6]) hR hb0 rfl
      · exact ok_val' rfl rfl (want_none rfl b) (by simp [go_sem, o4, nc0, nc1, nc2, nc3, nc4, nc5]) hR hb0 rfl
      · exact ok_val' rfl rfl (want_none rfl b) (by simp [go_sem]) hR hb0 rfl
      · have f40 : sl b 40 = .agg #[.string ⟨#[112]⟩, .int .i64 0, .int .i64 2, .int .i64 3, .slice (some ⟨S1, 0, none⟩) 1 1, .slice (some ⟨S2, 0, none⟩) 1 1, .bool false] := hdep 0 _ _ rfl rfl (by kernel_rfl)
        have f41 : sl b 41 = .agg #[.string ⟨#[110]⟩, .int .i64 5, .int .i64 5, .slice (some ⟨S3, 0, none⟩) 2 2, .slice (some ⟨S4, 0, none⟩) 1 1, .bool false] := hdep 1 _ _ rfl rfl (by kernel_rfl)
        have f42 : sl b 42 = .agg #[.int .i64 3, .int .i64 2] := hdep 2 _ _ rfl rfl (by kernel_rfl)
        refine ok_enter' rfl rfl (want_none rfl b) ?_ ((k0 w1 hR).mono ?_)
        · simp [go_sem, f40, f41, f42, cfWhy]
        rintro e w2 ⟨rfl, hb2⟩
        exact ⟨_, rfl, hR.trans (hb2.mono hR.size), hb2, rfl⟩
      · exact ok_val' rfl rfl (want_none rfl b) (by simp [go_sem, o3, ac0, ac1, ac2, ac3, ac4, ac5, ac6]) hR hb0 rfl
      · exact ok_val' rfl rfl (want_none rfl b) (by simp [go_sem, o6, cc0, cc1, cc2, cc3, cc4, cc5]) hR hb0 rfl
      · exact ok_val' rfl rfl (want_none rfl b) (by simp [go_sem]) hR hb0 rfl
      · exact ok_val' rfl rfl (want_none rfl b) (by simp [go_sem, o10]) hR hb0 rfl
      · have f44 : sl b 44 = .agg #[.string ⟨#[112]⟩, .int .i64 0, .int .i64 2, .int .i64 3, .slice (some ⟨S1, 0, none⟩) 1 1, .slice (some ⟨S2, 0, none⟩) 1 1, .bool false] := hdep 4 _ _ rfl rfl (by kernel_rfl)
        have f45 : sl b 45 = .agg #[.string ⟨#[110]⟩, .int .i64 5, .int .i64 5, .slice none 0 0, .slice (some ⟨S4, 0, none⟩) 1 1, .bool true] := hdep 5 _ _ rfl rfl (by kernel_rfl)
        have f46 : sl b 46 = .agg #[.int .i64 9, .int .i64 0] := hdep 6 _ _ rfl rfl (by kernel_rfl)
        have f47 : sl b 47 = .slice (some ⟨S8, 0, none⟩) 2 2 := hdep 7 _ _ rfl rfl (by kernel_rfl)
        refine ok_enter' rfl rfl (want_none rfl b) ?_ ((k1 w1 hR).mono ?_)
        · simp [go_sem, f44, f45, f46, f47, cfWhy]
        rintro e w2 ⟨rfl, hb2⟩
        exact ⟨_, rfl, hR.trans (hb2.mono hR.size), hb2, rfl⟩
      · exact ok_val' rfl rfl (want_none rfl b) (by simp [go_sem, o3, ac0, ac1, ac2, ac3, ac4, ac5, ac6]) hR hb0 rfl
      · exact ok_val' rfl rfl (want_none rfl b) (by simp [go_sem, o7, pc0, pc1, pc2, pc3, pc4, pc5]) hR hb0 rfl
      · exact ok_val' rfl rfl (want_none rfl b) (by simp [go_sem]) hR hb0 rfl
      · exact ok_val' rfl rfl (want_none rfl b) (by simp [go_sem, o10]) hR hb0 rfl
      · have f49 : sl b 49 = .agg #[.string ⟨#[112]⟩, .int .i64 0, .int .i64 2, .int .i64 3, .slice (some ⟨S1, 0, none⟩) 1 1, .slice (some ⟨S2, 0, none⟩) 1 1, .bool false] := hdep 9 _ _ rfl rfl (by kernel_rfl)
        have f50 : sl b 50 = .agg #[.string ⟨#[110]⟩, .int .i64 5, .int .i64 5, .slice (some ⟨S5, 0, none⟩) 1 1, .slice (some ⟨S4, 0, none⟩) 1 1, .bool false] := hdep 10 _ _ rfl rfl (by kernel_rfl)
        have f51 : sl b 51 = .agg #[.int .i64 9, .int .i64 0] := hdep 11 _ _ rfl rfl (by kernel_rfl)
        have f52 : sl b 52 = .slice (some ⟨S8, 0, none⟩) 2 2 := hdep 12 _ _ rfl rfl (by kernel_rfl)
        refine ok_enter' rfl rfl (want_none rfl b) ?_ ((k2 w1 hR).mono ?_)
        · simp [go_sem, f49, f50, f51, f52, cfWhy]
        rintro e w2 ⟨rfl, hb2⟩
        exact ⟨_, rfl, hR.trans (hb2.mono hR.size), hb2, rfl⟩
      · exact ok_val' rfl rfl (want_none rfl b) (by simp [go_sem, o3, ac0, ac1, ac2, ac3, ac4, ac5, ac6]) hR hb0 rfl
      · exact ok_val' rfl rfl (want_none rfl b) (by simp [go_sem, o8, hc0, hc1, hc2, hc3, hc4, hc5]) hR hb0 rfl
      · exact ok_val' rfl rfl (want_none rfl b) (by simp [go_sem]) hR hb0 rfl
      · exact ok_val' rfl rfl (want_none rfl b) (by simp [go_sem, o10]) hR hb0 rfl
      · have f54 : sl b 54 = .agg #[.string ⟨#[112]⟩, .int .i64 0, .int .i64 2, .int .i64 3, .slice (some ⟨S1, 0, none⟩) 1 1, .slice (some ⟨S2, 0, none⟩) 1 1, .bool false] := hdep 14 _ _ rfl rfl (by kernel_rfl)
        have f55 : sl b 55 = .agg #[.string ⟨#[110]⟩, .int .i64 5, .int .i64 5, .slice (some ⟨S3, 0, none⟩) 2 2, .slice (some ⟨S6, 0, none⟩) 2 2, .bool false] := hdep 15 _ _ rfl rfl (by kernel_rfl)
        have f56 : sl b 56 = .agg #[.int .i64 9, .int .i64 0] := hdep 16 _ _ rfl rfl (by kernel_rfl)
        have f57 : sl b 57 = .slice (some ⟨S8, 0, none⟩) 2 2 := hdep 17 _ _ rfl rfl (by kernel_rfl)
        refine ok_enter' rfl rfl (want_none rfl b) ?_ ((k3 w1 hR).mono ?_)
        · simp [go_sem, f54, f55, f56, f57, cfWhy]
        rintro e w2 ⟨rfl, hb2⟩
        exact ⟨_, rfl, hR.trans (hb2.mono hR.size), hb2, rfl⟩
      · exact ok_val' rfl rfl (want_none rfl b) (by simp [go_sem, o3, ac0, ac1, ac2, ac3, ac4, ac5, ac6]) hR hb0 rfl
      · exact ok_val' rfl rfl (want_none rfl b) (by simp [go_sem, o4, nc0, nc1, nc2, nc3, nc4, nc5]) hR hb0 rfl
      · exact ok_val' rfl rfl (want_none rfl b) (by simp [go_sem]) hR hb0 rfl
      · exact ok_val' rfl rfl (want_none rfl b) (by simp [go_sem, o10]) hR hb0 rfl
      · have f59 : sl b 59 = .agg #[.string ⟨#[112]⟩, .int .i64 0, .int .i64 2, .int .i64 3, .slice (some ⟨S1, 0, none⟩) 1 1, .slice (some ⟨S2, 0, none⟩) 1 1, .bool false] := hdep 19 _ _ rfl rfl (by kernel_rfl)
        have f60 : sl b 60 = .agg #[.string ⟨#[110]⟩, .int .i64 5, .int .i64 5, .slice (some ⟨S3, 0, none⟩) 2 2, .slice (some ⟨S4, 0, none⟩) 1 1, .bool false] := hdep 20 _ _ rfl rfl (by kernel_rfl)
        have f61 : sl b 61 = .agg #[.int .i64 4, .int .i64 0] := hdep 21 _ _ rfl rfl (by kernel_rfl)
        have f62 : sl b 62 = .slice (some ⟨S8, 0, none⟩) 2 2 := hdep 22 _ _ rfl rfl (by kernel_rfl)
        refine ok_enter' rfl rfl (want_none rfl b) ?_ ((k4 w1 hR).mono ?_)
        · simp [go_sem, f59, f60, f61, f62, cfWhy]
        rintro e w2 ⟨rfl, hb2⟩
        exact ⟨_, rfl, hR.trans (hb2.mono hR.size), hb2, rfl⟩
      · exact ok_val' rfl rfl (want_none rfl b) (by simp [go_sem, o3, ac0, ac1, ac2, ac3, ac4, ac5, ac6]) hR hb0 rfl
      · exact ok_val' rfl rfl (want_none rfl b) (by simp [go_sem, o4, nc0, nc1, nc2, nc3, nc4, nc5]) hR hb0 rfl
      · exact ok_val' rfl rfl (want_none rfl b) (by simp [go_sem]) hR hb0 rfl
      · exact ok_val' rfl rfl (want_none rfl b) (by simp [go_sem, o10]) hR hb0 rfl
      · have f64 : sl b 64 = .agg #[.string ⟨#[112]⟩, .int .i64 0, .int .i64 2, .int .i64 3, .slice (some ⟨S1, 0, none⟩) 1 1, .slice (some ⟨S2, 0, none⟩) 1 1, .bool false] := hdep 24 _ _ rfl rfl (by kernel_rfl)
        have f65 : sl b 65 = .agg #[.string ⟨#[110]⟩, .int .i64 5, .int .i64 5, .slice (some ⟨S3, 0, none⟩) 2 2, .slice (some ⟨S4, 0, none⟩) 1 1, .bool false] := hdep 25 _ _ rfl rfl (by kernel_rfl)
        have f66 : sl b 66 = .agg #[.int .i64 0, .int .i64 3] := hdep 26 _ _ rfl rfl (by kernel_rfl)
        have f67 : sl b 67 = .slice (some ⟨S8, 0, none⟩) 2 2 := hdep 27 _ _ rfl rfl (by kernel_rfl)
        refine ok_enter' rfl rfl (want_none rfl b) ?_ ((k5 w1 hR).mono ?_)
        · simp [go_sem, f64, f65, f66, f67, cfWhy]
        rintro e w2 ⟨rfl, hb2⟩
        exact ⟨_, rfl, hR.trans (hb2.mono hR.size), hb2, rfl⟩
      · exact ok_val' rfl rfl (want_none rfl b) (by simp [go_sem, o5, dc0, dc1, dc2, dc3, dc4, dc5, dc6]) hR hb0 rfl
      · exact ok_val' rfl rfl (want_none rfl b) (by simp [go_sem, o4, nc0, nc1, nc2, nc3, nc4, nc5]) hR hb0 rfl
      · exact ok_val' rfl rfl (want_none rfl b) (by simp [go_sem]) hR hb0 rfl
      · exact ok_val' rfl rfl (want_none rfl b) (by simp [go_sem, o9]) hR hb0 rfl
      · have f69 : sl b 69 = .agg #[.string ⟨#[112]⟩, .int .i64 0, .int .i64 2, .int .i64 3, .slice (some ⟨S1, 0, none⟩) 1 1, .slice (some ⟨S2, 0, none⟩) 1 1, .bool true] := hdep 29 _ _ rfl rfl (by kernel_rfl)
        have f70 : sl b 70 = .agg #[.string ⟨#[110]⟩, .int .i64 5, .int .i64 5, .slice (some ⟨S3, 0, none⟩) 2 2, .slice (some ⟨S4, 0, none⟩) 1 1, .bool false] := hdep 30 _ _ rfl rfl (by kernel_rfl)
        have f71 : sl b 71 = .agg #[.int .i64 0, .int .i64 0] := hdep 31 _ _ rfl rfl (by kernel_rfl)
        have f72 : sl b 72 = .slice (some ⟨S7, 0, none⟩) 1 1 := hdep 32 _ _ rfl rfl (by kernel_rfl)
        refine ok_enter' rfl rfl (want_none rfl b) ?_ ((k6 w1 hR).mono ?_)
        · simp [go_sem, f69, f70, f71, f72, cfWhy]
        rintro e w2 ⟨rfl, hb2⟩
        exact ⟨_, rfl, hR.trans (hb2.mono hR.size), hb2, rfl⟩
      · exact ok_val' rfl rfl (want_none rfl b) (by simp [go_sem, o5, dc0, dc1, dc2, dc3, dc4, dc5, dc6]) hR hb0 rfl
      · exact ok_val' rfl rfl (want_none rfl b) (by simp [go_sem, o4, nc0, nc1, nc2, nc3, nc4, nc5]) hR hb0 rfl
      · exact ok_val' rfl rfl (want_none rfl b) (by simp [go_sem]) hR hb0 rfl
      · exact ok_val' rfl rfl (want_none rfl b) (by simp [go_sem, o10]) hR hb0 rfl
      · have f74 : sl b 74 = .agg #[.string ⟨#[112]⟩, .int .i64 0, .int .i64 2, .int .i64 3, .slice (some ⟨S1, 0, none⟩) 1 1, .slice (some ⟨S2, 0, none⟩) 1 1, .bool true] := hdep 34 _ _ rfl rfl (by kernel_rfl)
        have f75 : sl b 75 = .agg #[.string ⟨#[110]⟩, .int .i64 5, .int .i64 5, .slice (some ⟨S3, 0, none⟩) 2 2, .slice (some ⟨S4, 0, none⟩) 1 1, .bool false] := hdep 35 _ _ rfl rfl (by kernel_rfl)
        have f76 : sl b 76 = .agg #[.int .i64 0, .int .i64 0] := hdep 36 _ _ rfl rfl (by kernel_rfl)
        have f77 : sl b 77 = .slice (some ⟨S8, 0, none⟩) 2 2 := hdep 37 _ _ rfl rfl (by kernel_rfl)
        refine ok_enter' rfl rfl (want_none rfl b) ?_ ((k7 w1 hR).mono ?_)
        · simp [go_sem, f74, f75, f76, f77, cfWhy]
        rintro e w2 ⟨rfl, hb2⟩
        exact ⟨_, rfl, hR.trans (hb2.mono hR.size), hb2, rfl⟩
      · exact ok_val' rfl rfl (want_none rfl b) (by simp [go_sem, o3, ac0, ac1, ac2, ac3, ac4, ac5, ac6]) hR hb0 rfl
      · exact ok_val' rfl rfl (want_none rfl b) (by simp [go_sem, o4, nc0, nc1, nc2, nc3, nc4, nc5]) hR hb0 rfl
      · exact ok_val' rfl rfl (want_none rfl b) (by simp [go_sem]) hR hb0 rfl
      · exact ok_val' rfl rfl (want_none rfl b) (by simp [go_sem, o10]) hR hb0 rfl
      · have f79 : sl b 79 = .agg #[.string ⟨#[112]⟩, .int .i64 0, .int .i64 2, .int .i64 3, .slice (some ⟨S1, 0, none⟩) 1 1, .slice (some ⟨S2, 0, none⟩) 1 1, .bool false] := hdep 39 _ _ rfl rfl (by kernel_rfl)
        have f80 : sl b 80 = .agg #[.string ⟨#[110]⟩, .int .i64 5, .int .i64 5, .slice (some ⟨S3, 0, none⟩) 2 2, .slice (some ⟨S4, 0, none⟩) 1 1, .bool false] := hdep 40 _ _ rfl rfl (by kernel_rfl)
        have f81 : sl b 81 = .agg #[.int .i64 0, .int .i64 0] := hdep 41 _ _ rfl rfl (by kernel_rfl)
        have f82 : sl b 82 = .slice (some ⟨S8, 0, none⟩) 2 2 := hdep 42 _ _ rfl rfl (by kernel_rfl)
        refine ok_enter' rfl rfl (want_none rfl b) ?_ ((k8 w1 hR).mono ?_)
        · simp [go_sem, f79, f80, f81, f82, cfWhy]
        rintro e w2 ⟨rfl, hb2⟩
        exact ⟨_, rfl, hR.trans (hb2.mono hR.size), hb2, rfl⟩
      · exact ok_val' rfl rfl (want_none rfl b) (by simp [go_sem, o3, ac0, ac1, ac2, ac3, ac4, ac5, ac6]) hR hb0 rfl
      · exact ok_val' rfl rfl (want_none rfl b) (by simp [go_sem, o4, nc0, nc1, nc2, nc3, nc4, nc5]) hR hb0 rfl
      · exact ok_val' rfl rfl (want_none rfl b) (by simp [go_sem]) hR hb0 rfl
      · exact ok_val' rfl rfl (want_none rfl b) (by simp [go_sem, o9]) hR hb0 rfl
      · have f84 : sl b 84 = .agg #[.string ⟨#[112]⟩, .int .i64 0, .int .i64 2, .int .i64 3, .slice (some ⟨S1, 0, none⟩) 1 1, .slice (some ⟨S2, 0, none⟩) 1 1, .bool false] := hdep 44 _ _ rfl rfl (by kernel_rfl)
        have f85 : sl b 85 = .agg #[.string ⟨#[110]⟩, .int .i64 5, .int .i64 5, .slice (some ⟨S3, 0, none⟩) 2 2, .slice (some ⟨S4, 0, none⟩) 1 1, .bool false] := hdep 45 _ _ rfl rfl (by kernel_rfl)
        have f86 : sl b 86 = .agg #[.int .i64 0, .int .i64 0] := hdep 46 _ _ rfl rfl (by kernel_rfl)
        have f87 : sl b 87 = .slice (some ⟨S7, 0, none⟩) 1 1 := hdep 47 _ _ rfl rfl (by kernel_rfl)
        refine ok_enter' rfl rfl (want_none rfl b) ?_ ((k9 w1 hR).mono ?_)
        · simp [go_sem, f84, f85, f86, f87, cfWhy]
        rintro e w2 ⟨rfl, hb2⟩
        exact ⟨_, rfl, hR.trans (hb2.mono hR.size), hb2, rfl⟩
      · exact ok_val' rfl rfl (want_none rfl b) (by simp [go_sem, o5, dc0, dc1, dc2, dc3, dc4, dc5, dc6]) hR hb0 rfl
      · exact ok_val' rfl rfl (want_none rfl b) (by simp [go_sem, o4, nc0, nc1, nc2, nc3, nc4, nc5]) hR hb0 rfl
      · exact ok_val' rfl rfl (want_none rfl b) (by simp [go_sem]) hR hb0 rfl
      · have f89 : sl b 89 = .agg #[.string ⟨#[112]⟩, .int .i64 0, .int .i64 2, .int .i64 3, .slice (some ⟨S1, 0, none⟩) 1 1, .slice (some ⟨S2, 0, none⟩) 1 1, .bool true] := hdep 49 _ _ rfl rfl (by kernel_rfl)
        have f90 : sl b 90 = .agg #[.string ⟨#[110]⟩, .int .i64 5, .int .i64 5, .slice (some ⟨S3, 0, none⟩) 2 2, .slice (some ⟨S4, 0, none⟩) 1 1, .bool false] := hdep 50 _ _ rfl rfl (by kernel_rfl)
        have f91 : sl b 91 = .agg #[.int .i64 0, .int .i64 0] := hdep 51 _ _ rfl rfl (by kernel_rfl)
        refine ok_enter' rfl rfl (want_none rfl b) ?_ ((k10 w1 hR).mono ?_)
        · simp [go_sem, f89, f90, f91, cfWhy]
        rintro e w2 ⟨rfl, hb2⟩
        exact ⟨_, rfl, hR.trans (hb2.mono hR.size), hb2, rfl⟩
      · exact ok_val' rfl rfl (want_none rfl b) (by simp [go_sem, o3, ac0, ac1, ac2, ac3, ac4, ac5, ac6]) hR hb0 rfl
      · exact ok_val' rfl rfl (want_none rfl b) (by simp [go_sem, o4, nc0, nc1, nc2, nc3, nc4, nc5]) hR hb0 rfl
      · exact ok_val' rfl rfl (want_none rfl b) (by simp [go_sem]) hR hb0 rfl
      · have f93 : sl b 93 = .agg #[.string ⟨#[112]⟩, .int .i64 0, .int .i64 2, .int .i64 3, .slice (some ⟨S1, 0, none⟩) 1 1, .slice (some ⟨S2, 0, none⟩) 1 1, .bool false] := hdep 53 _ _ rfl rfl (by kernel_rfl)
        have f94 : sl b 94 = .agg #[.string ⟨#[110]⟩, .int .i64 5, .int .i64 5, .slice (some ⟨S3, 0, none⟩) 2 2, .slice (some ⟨S4, 0, none⟩) 1 1, .bool false] := hdep 54 _ _ rfl rfl (by kernel_rfl)
        have f95 : sl b 95 = .agg #[.int .i64 9223372036854775807, .int .i64 0] := hdep 55 _ _ rfl rfl (by kernel_rfl)
        refine ok_enter' rfl rfl (want_none rfl b) ?_ ((k11 w1 hR).mono ?_)
        · simp [go_sem, f93, f94, f95, cfWhy]
        rintro e w2 ⟨rfl, hb2⟩
        exact ⟨_, rfl, hR.trans (hb2.mono hR.size), hb2, rfl⟩
      · have f43 : sl b 43 = .int .i64 0 := hdep 3 _ _ rfl rfl (by kernel_rfl)
        have f48 : sl b 48 = .int .i64 1 := hdep 8 _ _ rfl rfl (by kernel_rfl)
        have f53 : sl b 53 = .int .i64 2 := hdep 13 _ _ rfl rfl (by kernel_rfl)
        have f58 : sl b 58 = .int .i64 3 := hdep 18 _ _ rfl rfl (by kernel_rfl)
        have f63 : sl b 63 = .int .i64 4 := hdep 23 _ _ rfl rfl (by kernel_rfl)
        have f68 : sl b 68 = .int .i64 4 := hdep 28 _ _ rfl rfl (by kernel_rfl)
        have f73 : sl b 73 = .int .i64 5 := hdep 33 _ _ rfl rfl (by kernel_rfl)
        have f78 : sl b 78 = .int .i64 5 := hdep 38 _ _ rfl rfl (by kernel_rfl)
        have f83 : sl b 83 = .int .i64 6 := hdep 43 _ _ rfl rfl (by kernel_rfl)
        have f88 : sl b 88 = .int .i64 0 := hdep 48 _ _ rfl rfl (by kernel_rfl)
        have f92 : sl b 92 = .int .i64 0 := hdep 52 _ _ rfl rfl (by kernel_rfl)
        have f96 : sl b 96 = .int .i64 4 := hdep 56 _ _ rfl rfl (by kernel_rfl)
        exact ok_val' rfl rfl (want_none rfl b) (by simp [go_sem, f43, f48, f53, f58, f63, f68, f73, f78, f83, f88, f92, f96] <;> first | rfl | exact ⟨rfl, rfl⟩) (hR.alloc hR.size _) (hb0.alloc (Nat.le_refl _) _) ⟨_, rfl, Box.new _ _ _ rfl⟩
      · obtain ⟨G57, f97, g97⟩ : ∃ G, sl b 97 = .slice (some ⟨G, 0, none⟩) 12 12 ∧ Box w1 G #[.int .i64 0, .int .i64 1, .int .i64 2, .int .i64 3, .int .i64 4, .int .i64 4, .int .i64 5, .int .i64 5, .int .i64 6, .int .i64 0, .int .i64 0, .int .i64 4] 3 := hdep 57 _ _ rfl rfl (by kernel_rfl)
        exact ok_val' rfl rfl (want_none rfl b) (by simp [go_sem, f97] <;> rfl) hR hb0 ⟨_, rfl, g97⟩
      · cases ho
    case rest =>
      intro b w1 hR hsz hdf hold hF
      have f3 : sl b 3 = .pointer (some ⟨A, 0, none⟩) := hold 3 (by kernel_rfl)
      have f4 : sl b 4 = .pointer (some ⟨C, 0, none⟩) := hold 4 (by kernel_rfl)
      have f5 : sl b 5 = .pointer (some ⟨D, 0, none⟩) := hold 5 (by kernel_rfl)
      have f6 : sl b 6 = .pointer (some ⟨X, 0, none⟩) := hold 6 (by kernel_rfl)
      have f7 : sl b 7 = .pointer (some ⟨Y, 0, none⟩) := hold 7 (by kernel_rfl)
      have f8 : sl b 8 = .pointer (some ⟨Z, 0, none⟩) := hold 8 (by kernel_rfl)
      have f9 : sl b 9 = .slice (some ⟨S7, 0, none⟩) 1 1 := hold 9 (by kernel_rfl)
      have f10 : sl b 10 = .slice (some ⟨S8, 0, none⟩) 2 2 := hold 10 (by kernel_rfl)
      have f0 : sl b 0 = .int .i64 wh := hold 0 (by kernel_rfl)
      obtain ⟨G58, f11, g11⟩ : ∃ G, sl b 11 = .slice (some ⟨G, 0, none⟩) 12 12 ∧ Box w1 G #[.int .i64 0, .int .i64 1, .int .i64 2, .int .i64 3, .int .i64 4, .int .i64 4, .int .i64 5, .int .i64 5, .int .i64 6, .int .i64 0, .int .i64 0, .int .i64 4] 3 := hF 58 _ _ rfl rfl
      have hB : b = _ := act_list b (show b.tmps.size = 112 from hsz) hdf
      rw [hB]
      simp only [List.range, List.range.loop, List.map_cons, List.map_nil, f3, f4, f5, f6, f7, f8, f9, f10, f0, f11]
      generalize sl b 1 = v1, sl b 2 = v2, sl b 12 = v12, sl b 13 = v13, sl b 14 = v14, sl b 15 = v15, sl b 16 = v16, sl b 17 = v17, sl b 18 = v18, sl b 19 = v19, sl b 20 = v20, sl b 21 = v21, sl b 22 = v22, sl b 23 = v23, sl b 24 = v24, sl b 25 = v25, sl b 26 = v26, sl b 27 = v27, sl b 28 = v28, sl b 29 = v29, sl b 30 = v30, sl b 31 = v31, sl b 32 = v32, sl b 33 = v33, sl b 34 = v34, sl b 35 = v35, sl b 36 = v36, sl b 37 = v37, sl b 38 = v38, sl b 39 = v39, sl b 40 = v40, sl b 41 = v41, sl b 42 = v42, sl b 43 = v43, sl b 44 = v44, sl b 45 = v45, sl b 46 = v46, sl b 47 = v47, sl b 48 = v48, sl b 49 = v49, sl b 50 = v50, sl b 51 = v51, sl b 52 = v52, sl b 53 = v53, sl b 54 = v54, sl b 55 = v55, sl b 56 = v56, sl b 57 = v57, sl b 58 = v58, sl b 59 = v59, sl b 60 = v60, sl b 61 = v61, sl b 62 = v62, sl b 63 = v63, sl b 64 = v64, sl b 65 = v65, sl b 66 = v66, sl b 67 = v67, sl b 68 = v68, sl b 69 = v69, sl b 70 = v70, sl b 71 = v71, sl b 72 = v72, sl b 73 = v73, sl b 74 = v74, sl b 75 = v75, sl b 76 = v76, sl b 77 = v77, sl b 78 = v78, sl b 79 = v79, sl b 80 = v80, sl b 81 = v81, sl b 82 = v82, sl b 83 = v83, sl b 84 = v84, sl b 85 = v85, sl b 86 = v86, sl b 87 = v87, sl b 88 = v88, sl b 89 = v89, sl b 90 = v90, sl b 91 = v91, sl b 92 = v92, sl b 93 = v93, sl b 94 = v94, sl b 95 = v95, sl b 96 = v96, sl b 97 = v97, sl b 98 = v98, sl b 99 = v99, sl b 100 = v100, sl b 101 = v101, sl b 102 = v102, sl b 103 = v103, sl b 104 = v104, sl b 105 = v105, sl b 106 = v106, sl b 107 = v107, sl b 108 = v108, sl b 109 = v109, sl b 110 = v110, sl b 111 = v111
      clear hB hold hsz hdf hF f3 f4 f5 f6 f7 f8 f9 f10 f0 f11
      obtain ⟨q, hq⟩ : ∃ q, wh % 12 = q := ⟨_, rfl⟩
      have kQ := fun W => within5_any wh 12 q (by decide) (by decide) hq W
      have hq2 : 0 ≤ q ∧ q < 12 := by omega
      have hW9 := fin hR hW8
      clear hq hR hW8
      go_wp2_with (first
        | (go_at_call 12; refine (kQ _).mono ?_; rintro e w9 ⟨rfl, rfl⟩))
      have e1 := g11.up (.cells #[.int .i64 0, .int .i64 1, .int .i64 2, .int .i64 3, .int .i64 4, .int .i64 4, .int .i64 5, .int .i64 5, .int .i64 6, .int .i64 0, .int .i64 0, .int .i64 4] 3)
      have e2 : Box (w1.alloc (.cells #[.int .i64 0, .int .i64 1, .int .i64 2, .int .i64 3, .int .i64 4, .int .i64 4, .int .i64 5, .int .i64 5, .int .i64 6, .int .i64 0, .int .i64 0, .int .i64 4] 3)) w1.heap.size #[.int .i64 0, .int .i64 1, .int .i64 2, .int .i64 3, .int .i64 4, .int .i64 4, .int .i64 5, .int .i64 5, .int .i64 6, .int .i64 0, .int .i64 0, .int .i64 4] 3 := Box.new _ _ _ rfl
      have hW10 := up hW9 (.cells #[.int .i64 0, .int .i64 1, .int .i64 2, .int .i64 3, .int .i64 4, .int .i64 4, .int .i64 5, .int .i64 5, .int .i64 6, .int .i64 0, .int .i64 0, .int .i64 4] 3)
      generalize w1.alloc (.cells #[.int .i64 0, .int .i64 1, .int .i64 2, .int .i64 3, .int .i64 4, .int .i64 4, .int .i64 5, .int .i64 5, .int .i64 6, .int .i64 0, .int .i64 0, .int .i64 4] 3) = w10 at *
      obtain ⟨H, hH⟩ : ∃ H, w1.heap.size = H := ⟨_, rfl⟩
      simp only [hH] at e2 ⊢
      obtain ⟨K, rfl⟩ : ∃ K : Nat, q = K := ⟨q.toNat, by omega⟩
      have hK : (K : Int) < 12 := by omega
      obtain ⟨r, r1, r2, r3, r4⟩ : ∃ r, w10.cell? ((⟨G58, 0, none⟩ : Addr).add K) = some (.int .i64 r) ∧ w10.cell? ((⟨H, 0, none⟩ : Addr).add K) = some (.int .i64 r) ∧ w10.cell? ⟨G58, K, none⟩ = some (.int .i64 r) ∧ w10.cell? ⟨H, K, none⟩ = some (.int .i64 r) := by
        rcases (by omega : K = 0 ∨ K = 1 ∨ K = 2 ∨ K = 3 ∨ K = 4 ∨ K = 5 ∨ K = 6 ∨ K = 7 ∨ K = 8 ∨ K = 9 ∨ K = 10 ∨ K = 11) with rfl | rfl | rfl | rfl | rfl | rfl | rfl | rfl | rfl | rfl | rfl | rfl
        all_goals exact ⟨_, e1.cell rfl, e2.cell rfl, e1.cell rfl, e2.cell rfl⟩
      clear e1 e2 kQ g11 hH hq2
      go_quiet ((fail))
      go_wp2
      go_ret
      exact ⟨rfl, below_drewN hW10 _⟩


end Go.Proofs.Ytdgeigkdplbdbaa
