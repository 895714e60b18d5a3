/- The lines of one number, read again. -/
import Derived.Test.YtmldpihjndafaabDoorUC
import Derived.Test.YtmldpihjndafaabDoorUR
import Derived.Test.YtmldpihjndafaabDoorTQ
namespace Go.Proofs.YtmldpihjndafaabDoor
open Go.RowKit
set_option linter.unusedSimpArgs false
set_option linter.unusedVariables false

theorem word_verb (u : List UInt8) (x : List UInt8) (hu : Clean u) (hne : u ≠ []) : wordF (-1) (-1) (bs (u ++ 32 :: x)) = (bs u, 32, bs x) := by
  rw [wordF_text (-1) u (32 :: x) hu hne ⟨by decide, by decide⟩]
  rfl

theorem bs_size (l : List UInt8) : (bs l).size = l.length := by show l.toArray.size = _; simp

theorem numF_last (g : Nat) (hg : g ≤ 999999) : numF 32 32 (bs (dig g)) = (g, -2, ⟨#[]⟩) := by
  have := numF_text 32 g [] (by omega) trivial
  rw [List.append_nil] at this
  rw [this]
  rfl

theorem gangE_ok (g : Nat) (h1 : 1 ≤ g) (h2 : g ≤ 999999) : gangE g = 0 := by
  unfold gangE
  rw [if_neg (by omega)]

theorem dig_six (g : Nat) (hg : g ≤ 999999) : (dig g).length ≤ 6 := dig_len 5 g (by omega)

/-- The line of a record of one number. -/
def oneT (k g : Nat) : List UInt8 := (verbB k).data.toList ++ numT 32 g


theorem parse_one_four (g : Nat) (w : World) (h1 : 1 ≤ g) (h2 : g ≤ 999999) : Calls Tryd.prog 24 #[.string (bs (oneT 4 g))] w fun e w' => e = .returned (.tuple #[.agg #[.int .i64 4, .int .i64 g, .slice none 0 0, .slice none 0 0, .string ⟨#[]⟩, .int .i64 0, .int .i64 0, .slice none 0 0, .slice none 0 0, .bool false], .int .i64 0]) ∧ Below w.heap.size w w' := by
  have hl := dig_six g h2
  have hc : Clean (verbB 4).data.toList := clean_of _ (by decide)
  have hk : kindR (bs (verbB 4).data.toList) 7 1 = 4 := by decide +kernel
  have hT := word_verb (verbB 4).data.toList (dig g) hc (by decide)
  refine parse_four_ok (bs (oneT 4 g)) (bs (verbB 4).data.toList, 32, bs (dig g)) (g, -2, ⟨#[]⟩) w ?_ hT hk (numF_last g h2) (by rw [bs_size]; omega) rfl (gangE_ok g h1 h2)
  rw [bs_size]
  simp only [oneT, numT, List.length_append, List.length_cons]
  have : (verbB 4).data.toList.length ≤ 10 := by decide
  have hl' : (Lib.decDigits g).length ≤ 6 := hl
  omega

theorem parse_one_five (g : Nat) (w : World) (h1 : 1 ≤ g) (h2 : g ≤ 999999) : Calls Tryd.prog 24 #[.string (bs (oneT 5 g))] w fun e w' => e = .returned (.tuple #[.agg #[.int .i64 5, .int .i64 g, .slice none 0 0, .slice none 0 0, .string ⟨#[]⟩, .int .i64 0, .int .i64 0, .slice none 0 0, .slice none 0 0, .bool false], .int .i64 0]) ∧ Below w.heap.size w w' := by
  have hl := dig_six g h2
  have hc : Clean (verbB 5).data.toList := clean_of _ (by decide)
  have hk : kindR (bs (verbB 5).data.toList) 7 1 = 5 := by decide +kernel
  have hT := word_verb (verbB 5).data.toList (dig g) hc (by decide)
  refine parse_five_ok (bs (oneT 5 g)) (bs (verbB 5).data.toList, 32, bs (dig g)) (g, -2, ⟨#[]⟩) w ?_ hT hk (numF_last g h2) (by rw [bs_size]; omega) rfl (gangE_ok g h1 h2)
  rw [bs_size]
  simp only [oneT, numT, List.length_append, List.length_cons]
  have : (verbB 5).data.toList.length ≤ 10 := by decide
  have hl' : (Lib.decDigits g).length ≤ 6 := hl
  omega

theorem parse_one_six (g : Nat) (w : World) (h1 : 1 ≤ g) (h2 : g ≤ 999999) : Calls Tryd.prog 24 #[.string (bs (oneT 6 g))] w fun e w' => e = .returned (.tuple #[.agg #[.int .i64 6, .int .i64 g, .slice none 0 0, .slice none 0 0, .string ⟨#[]⟩, .int .i64 0, .int .i64 0, .slice none 0 0, .slice none 0 0, .bool false], .int .i64 0]) ∧ Below w.heap.size w w' := by
  have hl := dig_six g h2
  have hc : Clean (verbB 6).data.toList := clean_of _ (by decide)
  have hk : kindR (bs (verbB 6).data.toList) 7 1 = 6 := by decide +kernel
  have hT := word_verb (verbB 6).data.toList (dig g) hc (by decide)
  refine parse_six_ok (bs (oneT 6 g)) (bs (verbB 6).data.toList, 32, bs (dig g)) (g, -2, ⟨#[]⟩) w ?_ hT hk (numF_last g h2) (by rw [bs_size]; omega) rfl (gangE_ok g h1 h2)
  rw [bs_size]
  simp only [oneT, numT, List.length_append, List.length_cons]
  have : (verbB 6).data.toList.length ≤ 10 := by decide
  have hl' : (Lib.decDigits g).length ≤ 6 := hl
  omega

end Go.Proofs.YtmldpihjndafaabDoor
