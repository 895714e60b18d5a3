/- What the listed table gives the walks: its nine cells. -/
import Derived.Test.YtpgchnppinbpkaaDoorSO
import Derived.ProofKit
import Derived.LaidMore
import Derived.OpenShut
import Derived.Deep.Strs
import Derived.Stop.Joined
namespace Go.Proofs.YtpgchnppinbpkaaDoor
set_option maxRecDepth 100000
open Go.ChangeShapes Go.WideShapes Go.ChangeAt Go.WideMaps Go.WideElems Go.RowKit

/-- The list of the row: the table. -/
abbrev laidT : List (String × DataW Unit) := Rows.packAloneRow.laid
/-- The table's name. -/
abbrev termsName : String := (laidT.map (·.1)).headD default

theorem gTerms : Tryd.prog.globalNamed termsName = some 0 := by kernel_rfl
theorem tTerms : (Tryd.prog.globals[0]?).map (·.type) = some 123 := by kernel_rfl
theorem ownK : ownKnob Tryd.prog.godebug = none := by kernel_rfl

/-- The door's own heap meets the condition. -/
theorem door_met (os : Os) (args : Array Value) : laidMetH Tryd.prog laidT ((World.doorLaid Tryd.prog 400 os).forCall (fun _ _ => 0) ⟨#[], args, []⟩).memory :=
  laidMetH_of_parts3 (fuel := 8) (laidMet_of_run' 8 (by kernel_rfl) (by kernel_rfl)) (by kernel_rfl) (by kernel_rfl)

theorem c3 : Tryd.prog.cellsOf 3 = 1 := by kernel_rfl
theorem cT : Tryd.prog.cellsOf 122 = 3 := by kernel_rfl
theorem cTT : Tryd.prog.cellsOf 123 = 9 := by kernel_rfl

section
variable {H : Type} {enc : TypeId × Value → H} {W : World} {base : Nat} {spare : Nat → Bool} {held : Bool}

/-- A row of the table. -/
theorem row3 {m : Nat} {cs : List Value} {x : DataW H × List MemPlace} {a b c : Int} (h : DataW.trod enc Tryd.prog W base spare held m 122 cs = some x) (hx : x.1 = .agg [.lit (.int .i64 a), .lit (.int .i64 b), .lit (.int .i64 c)]) :
    cs = [.int .i64 a, .int .i64 b, .int .i64 c] := by
  obtain ⟨y0, y1, y2, n, rfl, hl, h0, h1, h2⟩ := Go.Deep.trod_struct3 Tryd.underlying122 h
  rw [cT] at hl
  match cs, hl with
  | [v0, v1, v2], _ =>
    obtain ⟨k0, e0, f0, _⟩ := DataW.trod_int Tryd.underlying3 (show DataW.trod enc Tryd.prog W base spare held n 3 _ = some y0 from h0)
    obtain ⟨k1, e1, f1, _⟩ := DataW.trod_int Tryd.underlying3 (show DataW.trod enc Tryd.prog W base spare held n 3 _ = some y1 from h1)
    obtain ⟨k2, e2, f2, _⟩ := DataW.trod_int Tryd.underlying3 (show DataW.trod enc Tryd.prog W base spare held n 3 _ = some y2 from h2)
    subst f0 f1 f2
    simp only [DataW.agg.injEq, List.cons.injEq, DataW.lit.injEq, Lit.int.injEq, and_true, true_and] at hx
    obtain ⟨rfl, rfl, rfl⟩ := hx
    rw [show Tryd.prog.cellsOf 3 = 1 from c3] at e0 e1 e2
    simp at e0 e1 e2
    rw [e0, e1, e2]
end

/-- What the condition gives the walks. -/
theorem tab_of_laid {W : World} (h : laidMetH Tryd.prog laidT W) : Tab W := by
  rw [MakeChecks.laidMetH_plain _ _ _ (by kernel_rfl)] at h
  obtain ⟨ps, ⟨g0, t0, cs0, f0, p0, q0, hg0, ht0, hv0, hd0, _, _⟩, _, _⟩ := h
  obtain rfl := Option.some.inj (gTerms.symm.trans hg0)
  obtain rfl := Option.some.inj (tTerms.symm.trans ht0)
  have hc := World.var?_cell hg0 hv0
  obtain ⟨xs, m, rfl, hx, hl, hn, hel⟩ := DataW.trod_array Tryd.underlying123 hd0
  rw [cTT] at hl
  match xs, hn with
  | [x0, x1, x2], _ =>
    simp only [Prod.mk.injEq, Rows.laid_joinery_score_terms, DataW.agg.injEq, List.map_cons, List.map_nil, List.cons.injEq, and_true] at hx
    have r0 := row3 (hel 0 (by decide)) hx.1.1.symm
    have r1 := row3 (hel 1 (by decide)) hx.1.2.1.symm
    have r2 := row3 (hel 2 (by decide)) hx.1.2.2.symm
    rw [cT] at r0 r1 r2
    obtain ⟨l⟩ := cs0
    match l, hl with
    | [v0, v1, v2, v3, v4, v5, v6, v7, v8], _ =>
      simp at r0 r1 r2
      obtain ⟨rfl, rfl, rfl⟩ := r0
      obtain ⟨rfl, rfl, rfl⟩ := r1
      obtain ⟨rfl, rfl, rfl⟩ := r2
      exact ⟨by simpa using hc 0, by simpa using hc 1, by simpa using hc 2, by simpa using hc 3, by simpa using hc 4, by simpa using hc 5, by simpa using hc 6, by simpa using hc 7, by simpa using hc 8⟩

end Go.Proofs.YtpgchnppinbpkaaDoor
