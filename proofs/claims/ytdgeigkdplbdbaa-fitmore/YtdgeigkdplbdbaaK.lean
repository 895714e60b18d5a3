/- The contract of the statements' own known; a pod and a node without marks. -/
import Derived.Test.YtdgeigkdplbdbaaFY
import Derived.Test.YtdgeigkdplbdbaaWi
namespace Go.Proofs.Ytdgeigkdplbdbaa
open Go.RowKit Go.Maps

theorem nil_short (i : Nat) : (([] : List ByteArray).getD i ByteArray.empty).size ≤ maxLen := by simp

/-- A pod and a node without marks. -/
theorem why_bare (s t : ByteArray) (sh cpu mem cc cm u v : Int) (al cl : Bool) (la : Option Addr) (ln lc : Nat) (l : List PlaceT) (r : Int) (w : World) (hln : l.length = ln) (hl : Places w la l) (hx : 0 ≤ cpu ∧ 0 ≤ mem ∧ 0 ≤ u ∧ 0 ≤ v) (hy : u ≤ 9223372036854775807 ∧ v ≤ 9223372036854775807)
    (h : whyN cl true true (roomB u v cpu mem cc cm) al l = r) :
    Calls Try.prog 14 #[.agg #[.string s, .int .i64 sh, .int .i64 cpu, .int .i64 mem, .slice none 0 0, .slice none 0 0, .bool al], .agg #[.string t, .int .i64 cc, .int .i64 cm, .slice none 0 0, .slice none 0 0, .bool cl], .agg #[.int .i64 u, .int .i64 v], .slice la ln lc] w
      fun e w' => e = .returned (.int .i64 r) ∧ Below w.heap.size w w' := by
  subst h
  exact why_any s sh cpu mem none 0 0 none 0 0 al t cc cm none 0 0 none 0 0 cl u v la ln lc [] [] [] [] l true true _ w rfl rfl rfl rfl hln (strs_nil w) (strs_nil w) (strs_nil w) (strs_nil w) hl nil_short nil_short nil_short nil_short hx hy rfl rfl rfl

set_option maxRecDepth 100000 in
theorem known_on (w0 w : World) (hb : Below w0.heap.size w0 w) : Calls Try.prog 9 #[] w fun e w' => e = .returned (.bool true) ∧ Below w0.heap.size w0 w' := by
  have k1 := fun W => why_bare ⟨#[]⟩ ⟨#[]⟩ 0 0 0 0 0 0 0 false true none 0 0 [] 1 W rfl (places_nil W) (by decide) (by decide) rfl
  have k2 := fun W => why_bare ⟨#[]⟩ ⟨#[]⟩ 0 0 0 0 0 0 0 false false none 0 0 [] 0 W rfl (places_nil W) (by decide) (by decide) (by decide)
  go_enter Try.func9, Try.ntmps9
  go_wp2_with (first
    | (go_at_call_of 14 (Value.agg #[.string ⟨#[]⟩, .int .i64 0, .int .i64 0, .slice none 0 0, .slice none 0 0, .bool true]); refine (k1 _).mono ?_; rintro e w1 ⟨rfl, hb1⟩
       have hW1 := hb.trans (hb1.mono hb.size))
    | (go_at_call_of 14 (Value.agg #[.string ⟨#[]⟩, .int .i64 0, .int .i64 0, .slice none 0 0, .slice none 0 0, .bool false]); refine (k2 _).mono ?_; rintro e w2 ⟨rfl, hb2⟩))
  go_ret
  exact ⟨rfl, hW1.trans (hb2.mono hW1.size)⟩

end Go.Proofs.Ytdgeigkdplbdbaa
